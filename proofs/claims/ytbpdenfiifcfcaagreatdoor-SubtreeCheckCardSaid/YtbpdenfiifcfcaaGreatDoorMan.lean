/-
  The contracts of the reference's Mail and MailBase: whether a text is a mail address; whether it is a base of such.
  The contract of the reference's MailMatch: whether two mail addresses are the same.
  The contract of the reference's MailWithin: whether a mail address or a base lies within a base.
  The contracts of the reference's Address and Range: whether bytes are an address; whether they are a range.
  The contract of the reference's AddressWithin: whether an address or a range lies within a range.
  The contract of certpathmade's attribute: one of twelve attributes; of the memory that was there only the deck's block has changed.
-/
import Derived.Test.YtbpdenfiifcfcaaGreatDoorMam
import Derived.Test.YtbpdenfiifcfcaaGreatDoorMad
import Derived.Test.YtbpdenfiifcfcaaGreatDoorMak
import Derived.Lib.QuietBelow
import Derived.BigQuiet
import Derived.Test.YtbpdenfiifcfcaaGreatDoorMaj
namespace Go.Proofs.YtbpdenfiifcfcaaGreatDoor
open Go.RowKit

theorem rparts_no {L : List UInt8} (h : mailB L = false) (hL : L.length ≤ 150000) (w : World) :
    Calls Tryz.prog 87 #[.string (strOf L)] w fun e w' => e = .returned (.tuple #[.string ⟨#[]⟩, .string ⟨#[]⟩, .bool false]) ∧ Below w.heap.size w w' := by
  have := rparts_any L hL w
  rwa [partsR_no h] at this
theorem rparts_yes {L : List UInt8} (h : mailB L = true) (hL : L.length ≤ 150000) (w : World) :
    Calls Tryz.prog 87 #[.string (strOf L)] w fun e w' => e = .returned (.tuple #[.string (strOf (localP L)), .string (strOf (domP L)), .bool true]) ∧ Below w.heap.size w w' := by
  have := rparts_any L hL w
  rwa [partsR_yes h] at this
set_option maxRecDepth 100000 in
set_option maxHeartbeats 1000000 in
theorem rmail_any (L : List UInt8) (hL : L.length ≤ 150000) (w : World) :
    Calls Tryz.prog 57 #[.string (strOf L)] w fun e w' => e = .returned (.bool (mailB L)) ∧ Below w.heap.size w w' := by
  cases h : mailB L with
  | true =>
    have HP := Lib.hid (fun w => rparts_yes h hL w)
    clear h
    go_enter Tryz.func57, Tryz.ntmps57
    go_wp2_with (go_at_call 87; (with_reducible refine (HP.out _).mono ?_); rintro e w2 ⟨rfl, hb2⟩; have HB2 := Lib.hid hb2; clear hb2)
    go_ret
    exact ⟨rfl, HB2.out⟩
  | false =>
    have HP := Lib.hid (fun w => rparts_no h hL w)
    clear h
    go_enter Tryz.func57, Tryz.ntmps57
    go_wp2_with (go_at_call 87; (with_reducible refine (HP.out _).mono ?_); rintro e w2 ⟨rfl, hb2⟩; have HB2 := Lib.hid hb2; clear hb2)
    go_ret
    exact ⟨rfl, HB2.out⟩
theorem rmail_is {L : List UInt8} {b : Bool} (h : mailB L = b) (hL : L.length ≤ 150000) (w : World) :
    Calls Tryz.prog 57 #[.string (strOf L)] w fun e w' => e = .returned (.bool b) ∧ Below w.heap.size w w' := by
  have := rmail_any L hL w
  rwa [h] at this
def dotB (l : List UInt8) : Bool := decide (l.length ≤ 128) && decide (1 < l.length) && l.head? == some 46 && dnsB (l.drop 1)
theorem mailBase_def (l : List UInt8) : mailBaseB l = (mailB l || dnsB l || dotB l) := rfl

set_option maxRecDepth 100000 in
set_option maxHeartbeats 2000000 in
theorem rmailbase_any (L : List UInt8) (hL : L.length ≤ 150000) (w : World) :
    Calls Tryz.prog 56 #[.string (strOf L)] w fun e w' => e = .returned (.bool (mailBaseB L)) ∧ Below w.heap.size w w' := by
  have e0 := strOf_size L
  cases h1 : mailB L with
  | true =>
    have HE := Lib.hid (show mailBaseB L = true by rw [mailBase_def, h1]; rfl)
    have HM := Lib.hid (fun w => rmail_is h1 hL w)
    clear h1
    go_enter Tryz.func56, Tryz.ntmps56
    go_wp2_with (go_at_call 57; (with_reducible refine (HM.out _).mono ?_); rintro e w1 ⟨rfl, hb1⟩; have HB1 := Lib.hid hb1; clear hb1)
    go_ret
    exact ⟨by rw [HE.out]; rfl, HB1.out⟩
  | false =>
    have HM := Lib.hid (fun w => rmail_is h1 hL w)
    cases h2 : dnsB L with
    | true =>
      have HE := Lib.hid (show mailBaseB L = true by rw [mailBase_def, h1, h2]; rfl)
      have HS := Lib.hid (fun w => rdns_is h2 hL w)
      clear h1 h2
      go_enter Tryz.func56, Tryz.ntmps56
      go_wp2_with (first
        | (go_at_call 57; (with_reducible refine (HM.out _).mono ?_); rintro e w1 ⟨rfl, hb1⟩; have HB1 := Lib.hid hb1; clear hb1)
        | (go_at_call 86; (with_reducible refine (HS.out _).mono ?_); rintro e w2 ⟨rfl, hb2⟩; have HB2 := Lib.hid hb2; clear hb2))
      go_ret
      exact ⟨by rw [HE.out]; rfl, below_next HB1.out HB2.out⟩
    | false =>
      have HS := Lib.hid (fun w => rdns_is h2 hL w)
      have HE := Lib.hid (show mailBaseB L = dotB L by rw [mailBase_def, h1, h2]; rfl)
      clear h1 h2
      by_cases h3 : L.length ≤ 128
      · have d3 : decide ((L.length : Int) ≤ (128 : Int)) = true := by simp; omega
        by_cases h4 : 1 < L.length
        · have d4 : decide ((1 : Int) < (L.length : Int)) = true := by simp; omega
          obtain ⟨x, hx, hxn⟩ := u8at_list (strOf L) 0 (by rw [e0]; omega)
          have hiz := run_index_u8 (P := Tryz.prog) Tryz.underlying9 (strOf L) 0 (by rw [e0]; omega) 0 rfl
          rw [hxn] at hiz
          rw [strOf_list] at hx
          by_cases h5 : x = 46
          · have dx : (((x.toNat : Nat) : Int) == (46 : Int)) = true := by rw [h5]; rfl
            have HE2 := Lib.hid (show mailBaseB L = dnsB (L.drop 1) by rw [HE.out]; unfold dotB; rw [decide_eq_true h3, decide_eq_true h4, List.head?_eq_getElem?, hx, h5]; rfl)
            have htl := fun w => tail_of L 1 (by omega) 1 rfl w
            obtain ⟨D, hD⟩ : ∃ D, D = L.drop 1 := ⟨_, rfl⟩
            rw [← hD] at htl HE2
            have HDL := Lib.hid (show D.length ≤ 150000 by rw [hD, List.length_drop]; omega)
            clear h5 hx hxn hD
            go_enter Tryz.func56, Tryz.ntmps56
            go_wp2_with (first
              | (go_at_call 57; (with_reducible refine (HM.out _).mono ?_); rintro e w1 ⟨rfl, hb1⟩; have HB1 := Lib.hid hb1; clear hb1)
              | (go_at_call 86; (with_reducible refine (HS.out _).mono ?_); rintro e w2 ⟨rfl, hb2⟩; have HB2 := Lib.hid hb2; clear hb2)
              | (go_at_call 86; (with_reducible refine (rdns_any D HDL.out _).mono ?_); rintro e w3 ⟨rfl, hb3⟩; have HB3 := Lib.hid hb3; clear hb3))
            go_ret
            exact ⟨by rw [HE2.out]; rfl, below_next (below_next HB1.out HB2.out) HB3.out⟩
          · have dx : (((x.toNat : Nat) : Int) == (46 : Int)) = false := byte_ne h5
            have HE2 := Lib.hid (show mailBaseB L = false by rw [HE.out]; unfold dotB; rw [List.head?_eq_getElem?, hx, show ((some x : Option UInt8) == some 46) = false from beq_eq_false_iff_ne.2 fun h => h5 (Option.some.inj h)]; simp)
            clear h5 hx hxn
            go_enter Tryz.func56, Tryz.ntmps56
            go_wp2_with (first
              | (go_at_call 57; (with_reducible refine (HM.out _).mono ?_); rintro e w1 ⟨rfl, hb1⟩; have HB1 := Lib.hid hb1; clear hb1)
              | (go_at_call 86; (with_reducible refine (HS.out _).mono ?_); rintro e w2 ⟨rfl, hb2⟩; have HB2 := Lib.hid hb2; clear hb2))
            go_ret
            exact ⟨by rw [HE2.out]; rfl, below_next HB1.out HB2.out⟩
        · have d4 : decide ((1 : Int) < (L.length : Int)) = false := decide_eq_false (by omega)
          have HE2 := Lib.hid (show mailBaseB L = false by rw [HE.out]; unfold dotB; rw [decide_eq_false h4]; simp)
          go_enter Tryz.func56, Tryz.ntmps56
          go_wp2_with (first
            | (go_at_call 57; (with_reducible refine (HM.out _).mono ?_); rintro e w1 ⟨rfl, hb1⟩; have HB1 := Lib.hid hb1; clear hb1)
            | (go_at_call 86; (with_reducible refine (HS.out _).mono ?_); rintro e w2 ⟨rfl, hb2⟩; have HB2 := Lib.hid hb2; clear hb2))
          go_ret
          exact ⟨by rw [HE2.out]; rfl, below_next HB1.out HB2.out⟩
      · have d3 : decide ((L.length : Int) ≤ (128 : Int)) = false := decide_eq_false (by omega)
        have HE2 := Lib.hid (show mailBaseB L = false by rw [HE.out]; unfold dotB; rw [decide_eq_false h3]; simp)
        go_enter Tryz.func56, Tryz.ntmps56
        go_wp2_with (first
          | (go_at_call 57; (with_reducible refine (HM.out _).mono ?_); rintro e w1 ⟨rfl, hb1⟩; have HB1 := Lib.hid hb1; clear hb1)
          | (go_at_call 86; (with_reducible refine (HS.out _).mono ?_); rintro e w2 ⟨rfl, hb2⟩; have HB2 := Lib.hid hb2; clear hb2))
        go_ret
        exact ⟨by rw [HE2.out]; rfl, below_next HB1.out HB2.out⟩
end Go.Proofs.YtbpdenfiifcfcaaGreatDoor
namespace Go.Proofs.YtbpdenfiifcfcaaGreatDoor
open Go.RowKit

theorem same_is {a b : List UInt8} (h : a = b) : ((strOf a).toList == (strOf b).toList) = true ∧ ((strOf a).toList = (strOf b).toList) = True := by subst h; simp
theorem same_not {a b : List UInt8} (h : a ≠ b) : ((strOf a).toList == (strOf b).toList) = false ∧ ((strOf a).toList = (strOf b).toList) = False := by
  rw [toList_of, toList_of]
  simp [h]

end Go.Proofs.YtbpdenfiifcfcaaGreatDoor
namespace Go.Proofs.YtbpdenfiifcfcaaGreatDoor
open Go.RowKit

end Go.Proofs.YtbpdenfiifcfcaaGreatDoor
namespace Go.Proofs.YtbpdenfiifcfcaaGreatDoor
open Go.RowKit

set_option maxRecDepth 100000 in
set_option maxHeartbeats 1000000 in
theorem raddr_any (L : List UInt8) (w : World) :
    Calls Tryz.prog 61 #[.string (strOf L)] w fun e w' => e = .returned (.bool (addrB L)) ∧ Below w.heap.size w w' := by
  have e0 := strOf_size L
  by_cases h : L.length = 4
  · have d1 : ((L.length : Int) == (4 : Int)) = true := by rw [h]; rfl
    have HE := Lib.hid (show addrB L = true by unfold addrB; rw [decide_eq_true h]; rfl)
    clear h
    go_enter Tryz.func61, Tryz.ntmps61
    go_wp2_with fail
    go_ret
    exact ⟨by rw [HE.out]; rfl, Below.refl _ _⟩
  · have d1 : ((L.length : Int) == (4 : Int)) = false := by simp; omega
    by_cases h2 : L.length = 16
    · have d2 : ((L.length : Int) == (16 : Int)) = true := by rw [h2]; rfl
      have HE := Lib.hid (show addrB L = true by unfold addrB; rw [decide_eq_true h2, Bool.or_true])
      clear h2
      go_enter Tryz.func61, Tryz.ntmps61
      go_wp2_with fail
      go_ret
      exact ⟨by rw [HE.out]; rfl, Below.refl _ _⟩
    · have d2 : ((L.length : Int) == (16 : Int)) = false := by simp; omega
      have HE := Lib.hid (show addrB L = false by unfold addrB; rw [decide_eq_false h, decide_eq_false h2]; rfl)
      go_enter Tryz.func61, Tryz.ntmps61
      go_wp2_with fail
      go_ret
      exact ⟨by rw [HE.out]; rfl, Below.refl _ _⟩
theorem range_all {L : List UInt8} {h : Nat} (hh : h = L.length / 2) (hl : L.length = 8 ∨ L.length = 32) (ha : ∀ j, j < 8 * h → bitOk L j = true) : rangeB L = true := by
  unfold rangeB
  rw [Bool.and_eq_true, Bool.or_eq_true, decide_eq_true_iff, decide_eq_true_iff, List.all_eq_true]
  exact ⟨hl, fun j hj => ha j (by rw [hh]; exact List.mem_range.1 hj)⟩
theorem range_bad {L : List UInt8} {h j : Nat} (hh : h = L.length / 2) (hj : j < 8 * h) (hb : bitOk L j = false) : rangeB L = false := by
  unfold rangeB
  rw [Bool.and_eq_false_iff]
  refine .inr ?_
  rw [Bool.eq_false_iff]
  intro k
  rw [List.all_eq_true] at k
  have := k j (List.mem_range.2 (by rw [← hh]; exact hj))
  rw [hb] at this
  cases this
theorem shr_two (M t : Nat) : ((M : Int) / 2 ^ t).tmod 2 = ((M / 2 ^ t % 2 : Nat) : Int) := by
  have e : (M : Int) / 2 ^ t = ((M / 2 ^ t : Nat) : Int) := by rw [Int.natCast_ediv, Int.natCast_pow]; rfl
  rw [e]
  generalize M / 2 ^ t = x
  rw [Int.tmod_eq_emod_of_nonneg (by omega)]
  omega
theorem tmod_one {M t : Nat} (h : M / 2 ^ t % 2 = 1) : ((M : Int) / 2 ^ t).tmod 2 = 1 := by rw [shr_two, h]; rfl
theorem tmod_zero {M t : Nat} (h : ¬ M / 2 ^ t % 2 = 1) : ((M : Int) / 2 ^ t).tmod 2 = 0 := by rw [shr_two, show M / 2 ^ t % 2 = 0 by omega]; rfl
theorem onesTo_succ (L : List UInt8) (i : Nat) : onesTo L (i + 1) = (onesTo L i && mbit L i) := by
  unfold onesTo
  rw [List.range_succ, List.all_append]
  simp

set_option maxRecDepth 100000 in
set_option maxHeartbeats 4000000 in
theorem rrange_any (L : List UInt8) (w : World) :
    Calls Tryz.prog 60 #[.string (strOf L)] w fun e w' => e = .returned (.bool (rangeB L)) ∧ Below w.heap.size w w' := by
  have e0 := strOf_size L
  by_cases hl : L.length = 8 ∨ L.length = 32
  · obtain ⟨h, hh⟩ : ∃ h, h = L.length / 2 := ⟨_, rfl⟩
    have HH := Lib.hid hh
    have HL := Lib.hid hl
    obtain ⟨n, hn⟩ : ∃ n, n = L.length := ⟨_, rfl⟩
    rw [← hn] at e0
    have HN := Lib.hid hn
    have hb : h ≤ 16 := by omega
    have hn2 : n = 2 * h := by omega
    have hq : (n : Int) / 2 = (h : Int) := by omega
    have HN2 := Lib.hid hn2
    have hor : (((n : Int) != 8) = false ∧ True) ∨ (((n : Int) != 8) = true ∧ ((n : Int) != 32) = false) := by
      rcases hl with h | h
      · rw [show n = 8 by omega]; exact .inl ⟨rfl, trivial⟩
      · rw [show n = 32 by omega]; exact .inr ⟨rfl, rfl⟩
    rcases hor with ⟨d8, d32⟩ | ⟨d8, d32⟩
    all_goals
      clear hl hh hn hn2
      go_enter Tryz.func60, Tryz.ntmps60
      go_wp2_with fail
      clear d8 d32 hq
      go_loopw [4, 5] (fun z i wr => ∃ (k : Nat) (Z : Bool), k ≤ 8 * h ∧ z = .bool Z ∧ Z = (!onesTo L k) ∧ i = .int .i64 (k : Int) ∧ (∀ j, j < k → bitOk L j = true) ∧ wr = w) (fun _ i _ => 8 * h - (intOf i).toNat)
      case atStart => exact ⟨0, false, Nat.zero_le _, rfl, rfl, rfl, fun j hj => absurd hj (Nat.not_lt_zero _), rfl⟩
      case round =>
        obtain ⟨k, Z, hk, rfl, hz, rfl, hall, rfl⟩ := hrel
        have HA := Lib.hid hall
        clear hall
        by_cases hlt : k < 8 * h
        · have hd : decide ((k : Int) < 8 * (h : Int)) = true := decide_eq_true (by omega)
          obtain ⟨q, hq⟩ : ∃ q, q = k / 8 := ⟨_, rfl⟩
          obtain ⟨r, hr⟩ : ∃ r, r = k % 8 := ⟨_, rfl⟩
          obtain ⟨t, ht⟩ : ∃ t, t = 7 - r := ⟨_, rfl⟩
          have q1 : (k : Int) / 8 = (q : Int) := by omega
          have q2 : (k : Int) % 8 = (r : Int) := by omega
          have q3 : (7 : Int) - (r : Int) = (t : Int) := by omega
          have ht7 : t ≤ 7 := by omega
          have hix := run_index_u8 (P := Tryz.prog) Tryz.underlying9 (strOf L) (h + q) (by rw [e0, HN2.out]; omega) ((h : Int) + (q : Int)) (by omega)
          have hiy := run_index_u8 (P := Tryz.prog) Tryz.underlying9 (strOf L) q (by rw [e0, HN2.out]; omega) (q : Int) rfl
          have hmb : mbit L k = decide (u8at (strOf L) (h + q) / 2 ^ t % 2 = 1) := by unfold mbit bitAt; rw [← HH.out, ← hq, ← hr, ← ht]; rfl
          have hab : abit L k = decide (u8at (strOf L) q / 2 ^ t % 2 = 1) := by unfold abit bitAt; rw [← hq, ← hr, ← ht, Nat.zero_add]; rfl
          have HBAD := Lib.hid (show bitOk L k = false → rangeB L = false from fun h => range_bad HH.out hlt h)
          have HNXT := Lib.hid (show bitOk L k = true → ∀ j, j < k + 1 → bitOk L j = true from fun h j hj => by
            rcases Nat.lt_or_ge j k with e | e
            · exact HA.out j e
            · rw [show j = k by omega]; exact h)
          have HT := Lib.hid ht
          clear hq hr ht
          generalize u8at (strOf L) (h + q) = M at hix hmb
          generalize u8at (strOf L) q = N at hiy hab
          cases hm : mbit L k with
          | true =>
            have f1 : ((M : Int) / 2 ^ t).tmod 2 = 1 := tmod_one (of_decide_eq_true (hmb.symm.trans hm))
            cases ho : onesTo L k with
            | true =>
              have hz' : Z = false := by rw [hz, ho]; rfl
              subst hz'
              have HO := Lib.hid (show false = !onesTo L (k + 1) by rw [onesTo_succ, ho, hm]; rfl)
              have HX := Lib.hid (HNXT.out (by unfold bitOk; rw [if_pos hm, ho]))
              clear hm ho hz hmb hab
              go_wp2_with fail
              go_roundw
              case rel => exact ⟨k + 1, _, by omega, rfl, HO.out, by go_num, HX.out, by first | exact trivial | rfl⟩
              case measure => simp [intOf]; omega
            | false =>
              have hz' : Z = true := by rw [hz, ho]; rfl
              subst hz'
              have HE := Lib.hid (HBAD.out (by unfold bitOk; rw [if_pos hm, ho]))
              clear hm ho hz hmb hab
              go_wp2_with fail
              go_ret
              exact ⟨by rw [HE.out]; rfl, Below.refl _ _⟩
          | false =>
            have f1 : ((M : Int) / 2 ^ t).tmod 2 = 0 := tmod_zero (of_decide_eq_false (hmb.symm.trans hm))
            cases ha : abit L k with
            | true =>
              have f2 : ((N : Int) / 2 ^ t).tmod 2 = 1 := tmod_one (of_decide_eq_true (hab.symm.trans ha))
              have HE := Lib.hid (HBAD.out (by unfold bitOk; rw [if_neg (by rw [hm]; simp), ha]; rfl))
              clear hm ha hmb hab
              go_wp2_with fail
              go_ret
              exact ⟨by rw [HE.out]; rfl, Below.refl _ _⟩
            | false =>
              have f2 : ((N : Int) / 2 ^ t).tmod 2 = 0 := tmod_zero (of_decide_eq_false (hab.symm.trans ha))
              have HO := Lib.hid (show true = !onesTo L (k + 1) by rw [onesTo_succ, hm, Bool.and_false]; rfl)
              have HX := Lib.hid (HNXT.out (by unfold bitOk; rw [if_neg (by rw [hm]; simp), ha]; rfl))
              cases ho : onesTo L k with
              | true =>
                have hz' : Z = false := by rw [hz, ho]; rfl
                subst hz'
                clear hm ha ho hz hmb hab
                go_wp2_with fail
                go_roundw
                case rel => exact ⟨k + 1, _, by omega, rfl, HO.out, by go_num, HX.out, by first | exact trivial | rfl⟩
                case measure => simp [intOf]; omega
              | false =>
                have hz' : Z = true := by rw [hz, ho]; rfl
                subst hz'
                clear hm ha ho hz hmb hab
                go_wp2_with fail
                go_roundw
                case rel => exact ⟨k + 1, _, by omega, rfl, HO.out, by go_num, HX.out, by first | exact trivial | rfl⟩
                case measure => simp [intOf]; omega
        · have ek : k = 8 * h := by omega
          have hd : decide ((k : Int) < 8 * (h : Int)) = false := decide_eq_false (by omega)
          have HE := Lib.hid (range_all HH.out HL.out fun j hj => HA.out j (by omega))
          clear ek
          go_wp2_with fail
          go_ret
          exact ⟨by rw [HE.out]; rfl, Below.refl _ _⟩
  · have HE := Lib.hid (show rangeB L = false by unfold rangeB; rw [decide_eq_false fun h => hl (.inl h), decide_eq_false fun h => hl (.inr h)]; rfl)
    have d1 : ((L.length : Int) != (8 : Int)) = true := by simp; omega
    have d2 : ((L.length : Int) != (32 : Int)) = true := by simp; omega
    clear hl
    go_enter Tryz.func60, Tryz.ntmps60
    go_wp2_with fail
    go_ret
    exact ⟨by rw [HE.out]; rfl, Below.refl _ _⟩
end Go.Proofs.YtbpdenfiifcfcaaGreatDoor
namespace Go.Proofs.YtbpdenfiifcfcaaGreatDoor
open Go.RowKit

theorem and_u8 (a b : UInt8) : bits BinOp.and .u8 ((a.toNat : Nat) : Int) ((b.toNat : Nat) : Int) = (((a &&& b).toNat : Nat) : Int) := by
  show IntKind.u8.wrap ((BitVec.ofInt 8 (a.toNat : Int) &&& BitVec.ofInt 8 (b.toNat : Int)).toNat : Int) = _
  rw [BitVec.toNat_and, BitVec.toNat_ofInt, BitVec.toNat_ofInt, UInt8.toNat_and]
  have e1 : ((a.toNat : Int) % (2 ^ 8 : Nat)).toNat = a.toNat := by
    have := a.toNat_lt
    show ((a.toNat : Int) % (256 : Nat)).toNat = a.toNat
    omega
  have e2 : ((b.toNat : Int) % (2 ^ 8 : Nat)).toNat = b.toNat := by
    have := b.toNat_lt
    show ((b.toNat : Int) % (256 : Nat)).toNat = b.toNat
    omega
  rw [e1, e2]
  have h : a.toNat &&& b.toNat ≤ a.toNat := Nat.and_le_left
  have := a.toNat_lt
  simp [IntKind.wrap, IntKind.bits, IntKind.signed]
  omega
end Go.Proofs.YtbpdenfiifcfcaaGreatDoor
namespace Go.Proofs.YtbpdenfiifcfcaaGreatDoor
open Go.RowKit

/-- The twelve attributes of the generator. -/
def madeL : List At := [(⟨#[50, 46, 53, 46, 52, 46, 51]⟩, 12, ⟨#[65, 110, 110]⟩), (⟨#[50, 46, 53, 46, 52, 46, 51]⟩, 19, ⟨#[32, 97, 110, 110]⟩), (⟨#[50, 46, 53, 46, 52, 46, 51]⟩, 12, ⟨#[103, 114, 195, 182, 195, 159, 101]⟩), (⟨#[50, 46, 53, 46, 52, 46, 54]⟩, 19, ⟨#[85, 83]⟩), (⟨#[50, 46, 53, 46, 52, 46, 49, 48]⟩, 19, ⟨#[69, 120, 97, 109, 112, 108, 101, 32, 32, 67, 111, 114, 112]⟩), (⟨#[50, 46, 53, 46, 52, 46, 49, 48]⟩, 12, ⟨#[101, 120, 97, 109, 112, 108, 101, 32, 99, 111, 114, 112]⟩), (⟨#[50, 46, 53, 46, 52, 46, 49, 49]⟩, 22, ⟨#[97, 44, 98, 43, 99, 61, 100, 92, 101]⟩), (⟨#[48, 46, 57, 46, 50, 51, 52, 50, 46, 49, 57, 50, 48, 48, 51, 48, 48, 46, 49, 48, 48, 46, 49, 46, 50, 53]⟩, 22, ⟨#[111, 114, 103]⟩), (⟨#[49, 46, 50, 46, 56, 52, 48, 46, 49, 49, 51, 53, 52, 57, 46, 49, 46, 57, 46, 49]⟩, 22, ⟨#[97, 110, 110, 64, 101, 120, 97, 109, 112, 108, 101, 46, 111, 114, 103]⟩), (⟨#[49, 46, 50, 46, 56, 52, 48, 46, 49, 49, 51, 53, 52, 57, 46, 49, 46, 57, 46, 49]⟩, 22, ⟨#[110, 111, 32, 97, 100, 100, 114, 101, 115, 115]⟩), (⟨#[50, 46, 53, 46, 52, 46, 57, 57]⟩, 19, ⟨#[120]⟩), (⟨#[50, 46, 53, 46, 52, 46, 55]⟩, 12, ⟨#[76]⟩)]
theorem made_cells : atsCells madeL = (.string ⟨#[50, 46, 53, 46, 52, 46, 51]⟩ :: .int .i64 12 :: .string ⟨#[65, 110, 110]⟩ :: .string ⟨#[50, 46, 53, 46, 52, 46, 51]⟩ :: .int .i64 19 :: .string ⟨#[32, 97, 110, 110]⟩ :: .string ⟨#[50, 46, 53, 46, 52, 46, 51]⟩ :: .int .i64 12 :: .string ⟨#[103, 114, 195, 182, 195, 159, 101]⟩ :: .string ⟨#[50, 46, 53, 46, 52, 46, 54]⟩ :: .int .i64 19 :: .string ⟨#[85, 83]⟩ :: .string ⟨#[50, 46, 53, 46, 52, 46, 49, 48]⟩ :: .int .i64 19 :: .string ⟨#[69, 120, 97, 109, 112, 108, 101, 32, 32, 67, 111, 114, 112]⟩ :: .string ⟨#[50, 46, 53, 46, 52, 46, 49, 48]⟩ :: .int .i64 12 :: .string ⟨#[101, 120, 97, 109, 112, 108, 101, 32, 99, 111, 114, 112]⟩ :: .string ⟨#[50, 46, 53, 46, 52, 46, 49, 49]⟩ :: .int .i64 22 :: .string ⟨#[97, 44, 98, 43, 99, 61, 100, 92, 101]⟩ :: .string ⟨#[48, 46, 57, 46, 50, 51, 52, 50, 46, 49, 57, 50, 48, 48, 51, 48, 48, 46, 49, 48, 48, 46, 49, 46, 50, 53]⟩ :: .int .i64 22 :: .string ⟨#[111, 114, 103]⟩ :: .string ⟨#[49, 46, 50, 46, 56, 52, 48, 46, 49, 49, 51, 53, 52, 57, 46, 49, 46, 57, 46, 49]⟩ :: .int .i64 22 :: .string ⟨#[97, 110, 110, 64, 101, 120, 97, 109, 112, 108, 101, 46, 111, 114, 103]⟩ :: .string ⟨#[49, 46, 50, 46, 56, 52, 48, 46, 49, 49, 51, 53, 52, 57, 46, 49, 46, 57, 46, 49]⟩ :: .int .i64 22 :: .string ⟨#[110, 111, 32, 97, 100, 100, 114, 101, 115, 115]⟩ :: .string ⟨#[50, 46, 53, 46, 52, 46, 57, 57]⟩ :: .int .i64 19 :: .string ⟨#[120]⟩ :: .string ⟨#[50, 46, 53, 46, 52, 46, 55]⟩ :: .int .i64 12 :: .string ⟨#[76]⟩ :: [] : List Value) := rfl
theorem made_own (w : World) (B : Nat) (hB : B ≤ w.heap.size) : OwnA (w.alloc (.cells ((.string ⟨#[50, 46, 53, 46, 52, 46, 51]⟩ :: .int .i64 12 :: .string ⟨#[65, 110, 110]⟩ :: .string ⟨#[50, 46, 53, 46, 52, 46, 51]⟩ :: .int .i64 19 :: .string ⟨#[32, 97, 110, 110]⟩ :: .string ⟨#[50, 46, 53, 46, 52, 46, 51]⟩ :: .int .i64 12 :: .string ⟨#[103, 114, 195, 182, 195, 159, 101]⟩ :: .string ⟨#[50, 46, 53, 46, 52, 46, 54]⟩ :: .int .i64 19 :: .string ⟨#[85, 83]⟩ :: .string ⟨#[50, 46, 53, 46, 52, 46, 49, 48]⟩ :: .int .i64 19 :: .string ⟨#[69, 120, 97, 109, 112, 108, 101, 32, 32, 67, 111, 114, 112]⟩ :: .string ⟨#[50, 46, 53, 46, 52, 46, 49, 48]⟩ :: .int .i64 12 :: .string ⟨#[101, 120, 97, 109, 112, 108, 101, 32, 99, 111, 114, 112]⟩ :: .string ⟨#[50, 46, 53, 46, 52, 46, 49, 49]⟩ :: .int .i64 22 :: .string ⟨#[97, 44, 98, 43, 99, 61, 100, 92, 101]⟩ :: .string ⟨#[48, 46, 57, 46, 50, 51, 52, 50, 46, 49, 57, 50, 48, 48, 51, 48, 48, 46, 49, 48, 48, 46, 49, 46, 50, 53]⟩ :: .int .i64 22 :: .string ⟨#[111, 114, 103]⟩ :: .string ⟨#[49, 46, 50, 46, 56, 52, 48, 46, 49, 49, 51, 53, 52, 57, 46, 49, 46, 57, 46, 49]⟩ :: .int .i64 22 :: .string ⟨#[97, 110, 110, 64, 101, 120, 97, 109, 112, 108, 101, 46, 111, 114, 103]⟩ :: .string ⟨#[49, 46, 50, 46, 56, 52, 48, 46, 49, 49, 51, 53, 52, 57, 46, 49, 46, 57, 46, 49]⟩ :: .int .i64 22 :: .string ⟨#[110, 111, 32, 97, 100, 100, 114, 101, 115, 115]⟩ :: .string ⟨#[50, 46, 53, 46, 52, 46, 57, 57]⟩ :: .int .i64 19 :: .string ⟨#[120]⟩ :: .string ⟨#[50, 46, 53, 46, 52, 46, 55]⟩ :: .int .i64 12 :: .string ⟨#[76]⟩ :: [] : List Value).toArray) 86)) B (.slice (some ⟨w.heap.size, 0, none⟩) 12 12) madeL := by
  have h := World.ownsRow_lit (base := B) (e := 86) (size := 3) w ((.string ⟨#[50, 46, 53, 46, 52, 46, 51]⟩ :: .int .i64 12 :: .string ⟨#[65, 110, 110]⟩ :: .string ⟨#[50, 46, 53, 46, 52, 46, 51]⟩ :: .int .i64 19 :: .string ⟨#[32, 97, 110, 110]⟩ :: .string ⟨#[50, 46, 53, 46, 52, 46, 51]⟩ :: .int .i64 12 :: .string ⟨#[103, 114, 195, 182, 195, 159, 101]⟩ :: .string ⟨#[50, 46, 53, 46, 52, 46, 54]⟩ :: .int .i64 19 :: .string ⟨#[85, 83]⟩ :: .string ⟨#[50, 46, 53, 46, 52, 46, 49, 48]⟩ :: .int .i64 19 :: .string ⟨#[69, 120, 97, 109, 112, 108, 101, 32, 32, 67, 111, 114, 112]⟩ :: .string ⟨#[50, 46, 53, 46, 52, 46, 49, 48]⟩ :: .int .i64 12 :: .string ⟨#[101, 120, 97, 109, 112, 108, 101, 32, 99, 111, 114, 112]⟩ :: .string ⟨#[50, 46, 53, 46, 52, 46, 49, 49]⟩ :: .int .i64 22 :: .string ⟨#[97, 44, 98, 43, 99, 61, 100, 92, 101]⟩ :: .string ⟨#[48, 46, 57, 46, 50, 51, 52, 50, 46, 49, 57, 50, 48, 48, 51, 48, 48, 46, 49, 48, 48, 46, 49, 46, 50, 53]⟩ :: .int .i64 22 :: .string ⟨#[111, 114, 103]⟩ :: .string ⟨#[49, 46, 50, 46, 56, 52, 48, 46, 49, 49, 51, 53, 52, 57, 46, 49, 46, 57, 46, 49]⟩ :: .int .i64 22 :: .string ⟨#[97, 110, 110, 64, 101, 120, 97, 109, 112, 108, 101, 46, 111, 114, 103]⟩ :: .string ⟨#[49, 46, 50, 46, 56, 52, 48, 46, 49, 49, 51, 53, 52, 57, 46, 49, 46, 57, 46, 49]⟩ :: .int .i64 22 :: .string ⟨#[110, 111, 32, 97, 100, 100, 114, 101, 115, 115]⟩ :: .string ⟨#[50, 46, 53, 46, 52, 46, 57, 57]⟩ :: .int .i64 19 :: .string ⟨#[120]⟩ :: .string ⟨#[50, 46, 53, 46, 52, 46, 55]⟩ :: .int .i64 12 :: .string ⟨#[76]⟩ :: [] : List Value).toArray) 12 hB (by unfold maxLen; omega) rfl
  unfold OwnA
  rw [made_cells]
  exact h
theorem atRes1 {fn : Func} {p : Tmp} (h : fn.results = #[.cell p 86]) (tmps : Array Value) (w w0 : World) (x y z : Value)
    (hp : tmps.getD p undef = .pointer (some ⟨w0.heap.size, 0, none⟩)) (hg : w.heap[w0.heap.size]? = some (.cells #[x, y, z] 86 (0, 0))) :
    (results fn tmps).run Tryz.prog w = .ok (.agg #[x, y, z]) w :=
  results_cell_row h tmps w w0.heap.size 86 #[x, y, z] (0, 0) _ hp hg Tryz.underlying86 rfl atSize

theorem belowTwo' (w : World) (o p : Obj) : Below w.heap.size w ((w.alloc o).alloc p) := below_next (belowNew w o) (belowNew _ p)
theorem But.fresh {p g : Nat} {a b c : World} (h : But p a b) (k : But g b c) (hg : a.heap.size ≤ g) : But p a c := World.grownBy.andThen h k (fun j e => .inl (by obtain rfl := Option.some.inj e; exact hg))
theorem cell_same {w w' : World} {b : Nat} (h : w'.heap[b]? = w.heap[b]?) (o : Nat) : w'.cell? ⟨b, o, none⟩ = w.cell? ⟨b, o, none⟩ := by
  simp only [World.cell?, h]
set_option maxRecDepth 100000 in
set_option maxHeartbeats 4000000 in
theorem attr_any (p : Nat) (a : Option Addr) (cap : Nat) (zs : List Int) (k : Nat) (w : World) (h : DeckAt w p a cap zs k) (hk : k < 30000) :
    Calls Tryz.prog 49 #[.pointer (some ⟨p, 0, none⟩)] w fun e w' => ∃ r k' : Nat, r < 12 ∧ e = .returned (atV (madeL.getD r noAt)) ∧ DeckAt w' p a cap zs k' ∧ k' ≤ k + 1 ∧ But p w w' := by
  obtain ⟨W1, hW1⟩ : ∃ W1, W1 = w.alloc (.cells #[.string ⟨#[]⟩, .int .i64 0, .string ⟨#[]⟩] 86) := ⟨_, rfl⟩
  obtain ⟨W2, hW2⟩ : ∃ W2, W2 = W1.alloc (.cells ((.string ⟨#[50, 46, 53, 46, 52, 46, 51]⟩ :: .int .i64 12 :: .string ⟨#[65, 110, 110]⟩ :: .string ⟨#[50, 46, 53, 46, 52, 46, 51]⟩ :: .int .i64 19 :: .string ⟨#[32, 97, 110, 110]⟩ :: .string ⟨#[50, 46, 53, 46, 52, 46, 51]⟩ :: .int .i64 12 :: .string ⟨#[103, 114, 195, 182, 195, 159, 101]⟩ :: .string ⟨#[50, 46, 53, 46, 52, 46, 54]⟩ :: .int .i64 19 :: .string ⟨#[85, 83]⟩ :: .string ⟨#[50, 46, 53, 46, 52, 46, 49, 48]⟩ :: .int .i64 19 :: .string ⟨#[69, 120, 97, 109, 112, 108, 101, 32, 32, 67, 111, 114, 112]⟩ :: .string ⟨#[50, 46, 53, 46, 52, 46, 49, 48]⟩ :: .int .i64 12 :: .string ⟨#[101, 120, 97, 109, 112, 108, 101, 32, 99, 111, 114, 112]⟩ :: .string ⟨#[50, 46, 53, 46, 52, 46, 49, 49]⟩ :: .int .i64 22 :: .string ⟨#[97, 44, 98, 43, 99, 61, 100, 92, 101]⟩ :: .string ⟨#[48, 46, 57, 46, 50, 51, 52, 50, 46, 49, 57, 50, 48, 48, 51, 48, 48, 46, 49, 48, 48, 46, 49, 46, 50, 53]⟩ :: .int .i64 22 :: .string ⟨#[111, 114, 103]⟩ :: .string ⟨#[49, 46, 50, 46, 56, 52, 48, 46, 49, 49, 51, 53, 52, 57, 46, 49, 46, 57, 46, 49]⟩ :: .int .i64 22 :: .string ⟨#[97, 110, 110, 64, 101, 120, 97, 109, 112, 108, 101, 46, 111, 114, 103]⟩ :: .string ⟨#[49, 46, 50, 46, 56, 52, 48, 46, 49, 49, 51, 53, 52, 57, 46, 49, 46, 57, 46, 49]⟩ :: .int .i64 22 :: .string ⟨#[110, 111, 32, 97, 100, 100, 114, 101, 115, 115]⟩ :: .string ⟨#[50, 46, 53, 46, 52, 46, 57, 57]⟩ :: .int .i64 19 :: .string ⟨#[120]⟩ :: .string ⟨#[50, 46, 53, 46, 52, 46, 55]⟩ :: .int .i64 12 :: .string ⟨#[76]⟩ :: [] : List Value).toArray) 86) := ⟨_, rfl⟩
  have hz : W1.heap.size = w.heap.size + 1 := by rw [hW1]; simp
  have hb : Below w.heap.size w W2 := by rw [hW2, hW1]; exact belowTwo' w _ _
  have hl : ALies W2 (some ⟨w.heap.size + 1, 0, none⟩) madeL := by
    obtain ⟨a1, c1, e1, _, e2⟩ := (made_own W1 0 (Nat.zero_le _)).lies
    rw [hz] at e1
    obtain ⟨rfl, _⟩ : some ⟨w.heap.size + 1, 0, none⟩ = a1 ∧ 12 = c1 := by simpa [madeL] using e1
    rw [hW2]; exact e2
  have hc : W2.heap[w.heap.size]? = some (.cells #[.string ⟨#[]⟩, .int .i64 0, .string ⟨#[]⟩] 86 (0, 0)) := by
    rw [hW2]
    refine ((belowNew W1 _).block _ (by rw [hz]; omega)).trans ?_
    rw [hW1]; exact heap_alloc_new w _
  have hp := h.lt
  have HN := Lib.hid (next_any p a cap zs k 12 W2 (h.below hb) hk (by omega) (by omega))
  have HL := Lib.hid hl
  have HC := Lib.hid hc
  have HB := Lib.hid hb
  rw [hW2, hW1, show ((12 : Nat) : Int) = (12 : Int) from rfl] at HN
  have HW := Lib.hid hW2
  rw [hW1] at HW
  clear h hl hc hb hz hW2 hW1
  go_enter Tryz.func49, Tryz.ntmps49
  go_wp2_with (go_at_call 11; (with_reducible refine HN.out.mono ?_); rintro e w3 ⟨r, k', hr, rfl, hd, hk', hb3⟩; rw [← HW.out] at hb3; have hc3 := (hb3.block w.heap.size (Array.getElem?_eq_some_iff.1 HC.out).1 (by simp; omega)).trans HC.out; obtain ⟨b, o, e0, _, q0, q1, q2⟩ := HL.out.at r hr; obtain ⟨rfl, rfl⟩ : w.heap.size + 1 = b ∧ 0 = o := (by simpa using e0); rw [Nat.zero_add] at q0 q1 q2; have g0 := (hb3.block _ (block_lt q0) (by simp; omega)); have d0 := (cell_same g0 _).trans q0; have d1 := (cell_same g0 _).trans q1; have d2 := (cell_same g0 _).trans q2; obtain ⟨c0, c1, c2, f0, f1, f2, hlt⟩ := at_facts hc3; generalize hE : madeL.getD r noAt = E at d0 d1 d2; have HE := Lib.hid hE; have HD := Lib.hid hd; have HK := Lib.hid hk'; have HB3 := Lib.hid hb3; have HC3 := Lib.hid hc3; have HR := Lib.hid hr; clear hE hd hk' hb3 hc3 q0 q1 q2 e0 g0)
  have hs := ((But.set w.heap.size 0 w3 (.string E.1)).next (But.set w.heap.size 1 _ (.int .i64 E.2.1))).next (But.set w.heap.size 2 _ (.string E.2.2))
  exact bodyPost_ret (atRes1 rfl _ _ w _ _ _ rfl (at_set HC3.out)) rfl ⟨r, k', HR.out, by rw [HE.out]; rfl, HD.out.grown hs (fun j e => by obtain rfl := Option.some.inj e; exact hp), HK.out, ((But.of HB.out).next HB3.out).fresh hs (Nat.le_refl _)⟩
end Go.Proofs.YtbpdenfiifcfcaaGreatDoor
