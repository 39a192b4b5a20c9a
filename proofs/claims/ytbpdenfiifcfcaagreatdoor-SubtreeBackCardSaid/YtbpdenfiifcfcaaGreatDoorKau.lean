/-
  The contracts of Pattern, Base, DNSMatch and DNSWithin of the program.
  The contracts of DNSMatch and DNSWithin of the program.
-/
import Derived.Test.YtbpdenfiifcfcaaGreatDoorKat
import Derived.Test.YtbpdenfiifcfcaaGreatDoorKaj
namespace Go.Proofs.YtbpdenfiifcfcaaGreatDoor
open Go.RowKit

theorem pdns_is {L : List UInt8} {b : Bool} (h : dnsB L = b) (hL : L.length ≤ 150000) (w : World) :
    Calls Tryz.prog 150 #[.string (strOf L)] w fun e w' => e = .returned (.bool b) ∧ Below w.heap.size w w' := by
  have := pdns_any L hL w
  rwa [h] at this
theorem phas_is {L : List UInt8} {b : Bool} (h : L.contains 46 = b) (w : World) : Calls Tryz.prog 155 #[.string (strOf L), .string ⟨#[46]⟩] w fun e w' => e = .returned (.bool b) ∧ w' = w := by
  have := phas_dot L w
  rwa [h] at this
theorem idx_star (r : List UInt8) : Lib.indexByte (42 :: 46 :: r) 46 = ((1 : Nat) : Int) := by simp [Lib.indexByte]
theorem pcs_star (r : List UInt8) : pcsL 46 (42 :: 46 :: r) = [42] :: pcsL 46 r := pcs_more (idx_star r)
theorem dns_star (r : List UInt8) : dnsB (42 :: 46 :: r) = false := by
  unfold dnsB
  rw [pcs_star, List.all_cons, show lbl [42] = false by decide]
  simp
theorem pcs_many (r : List UInt8) : decide (2 < (pcsL 46 (42 :: 46 :: r)).length) = r.contains 46 := by
  rw [pcs_star, List.length_cons]
  by_cases h : (46 : UInt8) ∈ r
  · rw [List.contains_iff_mem.2 h]
    rcases index_cases r 46 with ⟨_, k⟩ | ⟨i, k, _⟩
    · exact absurd h k
    · rw [pcs_more k, List.length_cons]
      have := List.length_pos_iff.2 (pcsL_ne 46 (r.drop (i + 1)))
      simp; omega
  · rw [pcs_last h, show r.contains 46 = false by rw [Bool.eq_false_iff]; exact fun k => h (List.contains_iff_mem.1 k)]
    rfl
theorem dns_nil : dnsB [] = false := by decide +kernel
theorem pat_star (r : List UInt8) : patB (42 :: 46 :: r) = (decide (r.length + 2 ≤ 128) && dnsB r && r.contains 46) := by
  unfold patB
  rw [dns_star, Bool.false_or, pcs_many, show decide ((42 :: 46 :: r : List UInt8).take 2 = [42, 46]) = true from rfl, Bool.and_true]
  show (decide (r.length + 2 ≤ 128) && decide (2 < r.length + 2) && dnsB r && r.contains 46) = _
  cases r with
  | nil => rw [dns_nil]; simp
  | cons x q => rw [show decide (2 < (x :: q).length + 2) = true by simp, Bool.and_true]
theorem pat_plain {L : List UInt8} (h : ∀ r, L ≠ 42 :: 46 :: r) : patB L = dnsB L := by
  have e : decide (L.take 2 = [42, 46]) = false := decide_eq_false fun k => h (L.drop 2) (by
    conv => lhs; rw [← List.take_append_drop 2 L, k]
    rfl)
  unfold patB
  rw [e]
  simp
theorem pat_form (L : List UInt8) : (∃ r, L = 42 :: 46 :: r) ∨ ∀ r, L ≠ 42 :: 46 :: r := by
  by_cases h : ∃ r, L = 42 :: 46 :: r
  · exact .inl h
  · exact .inr fun r e => h ⟨r, e⟩
theorem pat_asc {L : List UInt8} (h : patB L = true) : Asc L := by
  rcases pat_form L with ⟨r, rfl⟩ | hn
  · rw [pat_star] at h
    simp only [Bool.and_eq_true] at h
    exact (Asc.cons (by decide) (Asc.cons (by decide) (dns_asc h.1.2)))
  · rw [pat_plain hn] at h
    exact dns_asc h
theorem base_asc {L : List UInt8} (h : baseB L = true) : Asc L := by
  unfold baseB at h
  rw [Bool.or_eq_true, decide_eq_true_iff] at h
  rcases h with rfl | h
  · exact fun c hc => by simp at hc
  · exact dns_asc h

set_option maxRecDepth 100000 in
set_option maxHeartbeats 2000000 in
theorem ppat_any (L : List UInt8) (hL : L.length ≤ 150000) (w : World) :
    Calls Tryz.prog 131 #[.string (strOf L)] w fun e w' => e = .returned (.bool (patB L)) ∧ Below w.heap.size w w' := by
  rcases pat_form L with ⟨r, rfl⟩ | hn
  · have es : (strOf (42 :: 46 :: r)).size = r.length + 2 := strOf_size _
    have HS := Lib.hid (fun w => pstar_yes r w)
    have HP := Lib.hid (pat_star r)
    obtain ⟨S, hS⟩ : ∃ S, strOf (42 :: 46 :: r) = S := ⟨_, rfl⟩
    have hr : r.length ≤ 150000 := by have : (42 :: 46 :: r : List UInt8).length = r.length + 2 := rfl; omega
    rw [hS] at HS es ⊢
    by_cases h1 : r.length + 2 ≤ 128
    · have d1 : decide ((r.length : Int) + 2 ≤ 128) = true := by simp; omega
      have d2 : decide (((r.length + 2 : Nat) : Int) ≤ 128) = true := by simp; omega
      have HP2 := Lib.hid (show patB (42 :: 46 :: r) = (dnsB r && r.contains 46) by rw [HP.out, decide_eq_true h1]; rfl)
      cases h2 : dnsB r with
      | true =>
        obtain ⟨b, hb⟩ : ∃ b, r.contains 46 = b := ⟨_, rfl⟩
        have HP3 := Lib.hid (show patB (42 :: 46 :: r) = b by rw [HP2.out, h2, hb]; rfl)
        have HD := Lib.hid (fun w => pdns_is h2 hr w)
        have HC := Lib.hid (fun w => phas_is hb w)
        clear h2 hS hb
        go_enter Tryz.func131, Tryz.ntmps131
        go_wp2_with (first
          | (go_at_call 154; (with_reducible refine (HS.out _).mono ?_); rintro e w1 ⟨rfl, rfl⟩)
          | (go_at_call 150; (with_reducible refine (HD.out _).mono ?_); rintro e w2 ⟨rfl, hb2⟩; have HB2 := Lib.hid hb2; clear hb2)
          | (go_at_call 155; (with_reducible refine (HC.out _).mono ?_); rintro e w3 ⟨rfl, rfl⟩))
        go_ret
        exact ⟨by rw [HP3.out]; rfl, HB2.out⟩
      | false =>
        have HP3 := Lib.hid (show patB (42 :: 46 :: r) = false by rw [HP2.out, h2]; rfl)
        have HD := Lib.hid (fun w => pdns_is h2 hr w)
        clear h2 hS
        go_enter Tryz.func131, Tryz.ntmps131
        go_wp2_with (first
          | (go_at_call 154; (with_reducible refine (HS.out _).mono ?_); rintro e w1 ⟨rfl, rfl⟩)
          | (go_at_call 150; (with_reducible refine (HD.out _).mono ?_); rintro e w2 ⟨rfl, hb2⟩; have HB2 := Lib.hid hb2; clear hb2))
        go_ret
        exact ⟨by rw [HP3.out]; rfl, HB2.out⟩
    · have d1 : decide ((r.length : Int) + 2 ≤ 128) = false := by simp; omega
      have d2 : decide (((r.length + 2 : Nat) : Int) ≤ 128) = false := by simp; omega
      have HP2 := Lib.hid (show patB (42 :: 46 :: r) = false by rw [HP.out, decide_eq_false h1]; rfl)
      clear hS
      go_enter Tryz.func131, Tryz.ntmps131
      go_wp2_with (go_at_call 154; (with_reducible refine (HS.out _).mono ?_); rintro e w1 ⟨rfl, rfl⟩)
      go_ret
      exact ⟨by rw [HP2.out]; rfl, Below.refl _ _⟩
  · have HS := Lib.hid (fun w => pstar_no hn w)
    have HP := Lib.hid (pat_plain hn)
    have HD := Lib.hid (fun w => pdns_any L hL w)
    clear hn
    go_enter Tryz.func131, Tryz.ntmps131
    go_wp2_with (first
      | (go_at_call 154; (with_reducible refine (HS.out _).mono ?_); rintro e w1 ⟨rfl, rfl⟩)
      | (go_at_call 150; (with_reducible refine (HD.out _).mono ?_); rintro e w2 ⟨rfl, hb2⟩; have HB2 := Lib.hid hb2; clear hb2))
    go_ret
    exact ⟨by rw [HP.out]; rfl, HB2.out⟩

set_option maxRecDepth 100000 in
set_option maxHeartbeats 2000000 in
theorem pbase_any (L : List UInt8) (hL : L.length ≤ 150000) (w : World) :
    Calls Tryz.prog 128 #[.string (strOf L)] w fun e w' => e = .returned (.bool (baseB L)) ∧ Below w.heap.size w w' := by
  have HD := Lib.hid (fun w => pdns_any L hL w)
  by_cases h : L = []
  · obtain ⟨hbe, hbp⟩ := empty_is h
    have HE := Lib.hid (show baseB L = true by unfold baseB; rw [decide_eq_true h]; rfl)
    clear h
    go_enter Tryz.func128, Tryz.ntmps128
    go_wp2_with fail
    go_ret
    exact ⟨by rw [HE.out]; rfl, Below.refl _ _⟩
  · obtain ⟨hbe, hbp⟩ := empty_not h
    have HE := Lib.hid (show baseB L = dnsB L by unfold baseB; rw [decide_eq_false h]; rfl)
    clear h
    go_enter Tryz.func128, Tryz.ntmps128
    go_wp2_with (go_at_call 150; (with_reducible refine (HD.out _).mono ?_); rintro e w1 ⟨rfl, hb1⟩; have HB1 := Lib.hid hb1; clear hb1)
    go_ret
    exact ⟨by rw [HE.out]; rfl, HB1.out⟩
theorem ppat_is {L : List UInt8} {b : Bool} (h : patB L = b) (hL : L.length ≤ 150000) (w : World) :
    Calls Tryz.prog 131 #[.string (strOf L)] w fun e w' => e = .returned (.bool b) ∧ Below w.heap.size w w' := by
  have := ppat_any L hL w
  rwa [h] at this
theorem pbase_is {L : List UInt8} {b : Bool} (h : baseB L = b) (hL : L.length ≤ 150000) (w : World) :
    Calls Tryz.prog 128 #[.string (strOf L)] w fun e w' => e = .returned (.bool b) ∧ Below w.heap.size w w' := by
  have := pbase_any L hL w
  rwa [h] at this
end Go.Proofs.YtbpdenfiifcfcaaGreatDoor
namespace Go.Proofs.YtbpdenfiifcfcaaGreatDoor
open Go.RowKit

theorem peq_is {a b : List UInt8} {c : Bool} (h : alikeB a b = c) (ha : a.length ≤ 150000) (aa : Asc a) (ab : Asc b) (w : World) :
    Calls Tryz.prog 141 #[.string (strOf a), .string (strOf b)] w fun e w' => e = .returned (.bool c) ∧ w' = w := by
  have := peq_any a b ha aa ab w
  rwa [h] at this

set_option maxRecDepth 100000 in
set_option maxHeartbeats 2000000 in
theorem pwithin_any (a b : List UInt8) (ha : a.length ≤ 150000) (hb : b.length ≤ 150000) (w : World) :
    Calls Tryz.prog 119 #[.string (strOf a), .string (strOf b)] w fun e w' => e = .returned (.bool (dnsWithinB a b)) ∧ Below w.heap.size w w' := by
  have hdot := dot_of b hb
  by_cases h1 : a = []
  · have hfa : firstArg a = true := by unfold firstArg; rw [decide_eq_true h1]; rfl
    obtain ⟨hae, hap⟩ := empty_is h1
    cases h2 : baseB b with
    | false =>
      have HE := Lib.hid (show dnsWithinB a b = false by rw [within_def, h2]; simp)
      have HB := Lib.hid (fun w => pbase_is h2 hb w)
      clear h1 h2 hdot
      go_enter Tryz.func119, Tryz.ntmps119
      go_wp2_with (go_at_call 128; (with_reducible refine (HB.out _).mono ?_); rintro e w2 ⟨rfl, hb2⟩; have HB2 := Lib.hid hb2; clear hb2)
      go_ret
      exact ⟨by rw [HE.out]; rfl, HB2.out⟩
    | true =>
      have HB := Lib.hid (fun w => pbase_is h2 hb w)
      by_cases h3 : b = []
      · have HE := Lib.hid (show dnsWithinB a b = true by rw [within_def, h2, hfa, decide_eq_true h3]; rfl)
        obtain ⟨hbe, hbp⟩ := empty_is h3
        clear h1 h2 h3 hfa hdot
        go_enter Tryz.func119, Tryz.ntmps119
        go_wp2_with (go_at_call 128; (with_reducible refine (HB.out _).mono ?_); rintro e w2 ⟨rfl, hb2⟩; have HB2 := Lib.hid hb2; clear hb2)
        go_ret
        exact ⟨by rw [HE.out]; rfl, HB2.out⟩
      · have HE0 := Lib.hid (show dnsWithinB a b = (alikeB a b || endsB a (46 :: b)) by rw [within_def, h2, hfa, decide_eq_false h3]; rfl)
        obtain ⟨hbe, hbp⟩ := empty_not h3
        have aa : Asc a := by rw [h1]; exact fun c hc => by simp at hc
        have ab : Asc b := base_asc h2
        have HN := Lib.hid (fun w => pends_any a (46 :: b) ha (by simp only [List.length_cons]; omega) aa (ab.cons (by decide)) w)
        cases h4 : alikeB a b with
        | true =>
          have HE := Lib.hid (show dnsWithinB a b = true by rw [HE0.out, h4]; rfl)
          have HQ := Lib.hid (fun w => peq_is h4 ha aa ab w)
          clear h1 h2 h3 h4 hfa aa ab hdot
          go_enter Tryz.func119, Tryz.ntmps119
          go_wp2_with (first
            | (go_at_call 128; (with_reducible refine (HB.out _).mono ?_); rintro e w2 ⟨rfl, hb2⟩; have HB2 := Lib.hid hb2; clear hb2)
            | (go_at_call 141; (with_reducible refine (HQ.out _).mono ?_); rintro e w3 ⟨rfl, rfl⟩))
          go_ret
          exact ⟨by rw [HE.out]; rfl, HB2.out⟩
        | false =>
          have HE := Lib.hid (show dnsWithinB a b = endsB a (46 :: b) by rw [HE0.out, h4]; rfl)
          have HQ := Lib.hid (fun w => peq_is h4 ha aa ab w)
          obtain ⟨T, hT⟩ : ∃ T, strOf (46 :: b) = T := ⟨_, rfl⟩
          generalize endsB a (46 :: b) = t at HN HE
          rw [hT] at HN hdot
          clear h1 h2 h3 h4 hfa aa ab hT
          go_enter Tryz.func119, Tryz.ntmps119
          go_wp2_with (first
            | (go_at_call 128; (with_reducible refine (HB.out _).mono ?_); rintro e w2 ⟨rfl, hb2⟩; have HB2 := Lib.hid hb2; clear hb2)
            | (go_at_call 141; (with_reducible refine (HQ.out _).mono ?_); rintro e w3 ⟨rfl, rfl⟩)
            | (go_at_call 142; (with_reducible refine (HN.out _).mono ?_); rintro e w4 ⟨rfl, rfl⟩))
          go_ret
          exact ⟨by rw [HE.out]; rfl, HB2.out⟩
  · obtain ⟨hae, hap⟩ := empty_not h1
    cases h0 : patB a with
    | false =>
      have HE := Lib.hid (show dnsWithinB a b = false by rw [within_def, show firstArg a = false by unfold firstArg; rw [decide_eq_false h1, h0]; rfl]; rfl)
      have HP := Lib.hid (fun w => ppat_is h0 ha w)
      clear h0 h1 hdot
      go_enter Tryz.func119, Tryz.ntmps119
      go_wp2_with (go_at_call 131; (with_reducible refine (HP.out _).mono ?_); rintro e w1 ⟨rfl, hb1⟩; have HB1 := Lib.hid hb1; clear hb1)
      go_ret
      exact ⟨by rw [HE.out]; rfl, HB1.out⟩
    | true =>
      have HP := Lib.hid (fun w => ppat_is h0 ha w)
      have hfa : firstArg a = true := by unfold firstArg; rw [h0]; simp
      have ha0 : Asc a := pat_asc h0
      clear h0
      cases h2 : baseB b with
      | false =>
        have HE := Lib.hid (show dnsWithinB a b = false by rw [within_def, h2]; simp)
        have HB := Lib.hid (fun w => pbase_is h2 hb w)
        clear h1 h2 hdot
        go_enter Tryz.func119, Tryz.ntmps119
        go_wp2_with (first
          | (go_at_call 131; (with_reducible refine (HP.out _).mono ?_); rintro e w1 ⟨rfl, hb1⟩; have HB1 := Lib.hid hb1; clear hb1)
          | (go_at_call 128; (with_reducible refine (HB.out _).mono ?_); rintro e w2 ⟨rfl, hb2⟩; have HB2 := Lib.hid (below_next HB1.out hb2); clear hb2))
        go_ret
        exact ⟨by rw [HE.out]; rfl, HB2.out⟩
      | true =>
        have HB := Lib.hid (fun w => pbase_is h2 hb w)
        by_cases h3 : b = []
        · have HE := Lib.hid (show dnsWithinB a b = true by rw [within_def, h2, hfa, decide_eq_true h3]; rfl)
          obtain ⟨hbe, hbp⟩ := empty_is h3
          clear h1 h2 h3 hfa hdot
          go_enter Tryz.func119, Tryz.ntmps119
          go_wp2_with (first
            | (go_at_call 131; (with_reducible refine (HP.out _).mono ?_); rintro e w1 ⟨rfl, hb1⟩; have HB1 := Lib.hid hb1; clear hb1)
            | (go_at_call 128; (with_reducible refine (HB.out _).mono ?_); rintro e w2 ⟨rfl, hb2⟩; have HB2 := Lib.hid (below_next HB1.out hb2); clear hb2))
          go_ret
          exact ⟨by rw [HE.out]; rfl, HB2.out⟩
        · have HE0 := Lib.hid (show dnsWithinB a b = (alikeB a b || endsB a (46 :: b)) by rw [within_def, h2, hfa, decide_eq_false h3]; rfl)
          obtain ⟨hbe, hbp⟩ := empty_not h3
          have aa : Asc a := ha0
          have ab : Asc b := base_asc h2
          have HN := Lib.hid (fun w => pends_any a (46 :: b) ha (by simp only [List.length_cons]; omega) aa (ab.cons (by decide)) w)
          cases h4 : alikeB a b with
          | true =>
            have HE := Lib.hid (show dnsWithinB a b = true by rw [HE0.out, h4]; rfl)
            have HQ := Lib.hid (fun w => peq_is h4 ha aa ab w)
            clear h1 h2 h3 h4 hfa aa ab hdot
            go_enter Tryz.func119, Tryz.ntmps119
            go_wp2_with (first
              | (go_at_call 131; (with_reducible refine (HP.out _).mono ?_); rintro e w1 ⟨rfl, hb1⟩; have HB1 := Lib.hid hb1; clear hb1)
              | (go_at_call 128; (with_reducible refine (HB.out _).mono ?_); rintro e w2 ⟨rfl, hb2⟩; have HB2 := Lib.hid (below_next HB1.out hb2); clear hb2)
              | (go_at_call 141; (with_reducible refine (HQ.out _).mono ?_); rintro e w3 ⟨rfl, rfl⟩))
            go_ret
            exact ⟨by rw [HE.out]; rfl, HB2.out⟩
          | false =>
            have HE := Lib.hid (show dnsWithinB a b = endsB a (46 :: b) by rw [HE0.out, h4]; rfl)
            have HQ := Lib.hid (fun w => peq_is h4 ha aa ab w)
            obtain ⟨T, hT⟩ : ∃ T, strOf (46 :: b) = T := ⟨_, rfl⟩
            generalize endsB a (46 :: b) = t at HN HE
            rw [hT] at HN hdot
            clear h1 h2 h3 h4 hfa aa ab hT
            go_enter Tryz.func119, Tryz.ntmps119
            go_wp2_with (first
              | (go_at_call 131; (with_reducible refine (HP.out _).mono ?_); rintro e w1 ⟨rfl, hb1⟩; have HB1 := Lib.hid hb1; clear hb1)
              | (go_at_call 128; (with_reducible refine (HB.out _).mono ?_); rintro e w2 ⟨rfl, hb2⟩; have HB2 := Lib.hid (below_next HB1.out hb2); clear hb2)
              | (go_at_call 141; (with_reducible refine (HQ.out _).mono ?_); rintro e w3 ⟨rfl, rfl⟩)
              | (go_at_call 142; (with_reducible refine (HN.out _).mono ?_); rintro e w4 ⟨rfl, rfl⟩))
            go_ret
            exact ⟨by rw [HE.out]; rfl, HB2.out⟩
end Go.Proofs.YtbpdenfiifcfcaaGreatDoor
