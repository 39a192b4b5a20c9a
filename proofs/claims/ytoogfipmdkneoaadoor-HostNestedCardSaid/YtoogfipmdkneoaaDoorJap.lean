/-
  The contracts of DNSMatch and DNSWithin of the program.
-/
import Derived.Test.YtoogfipmdkneoaaDoorJao
namespace Go.Proofs.YtoogfipmdkneoaaDoor
open Go.RowKit

theorem join_each {c : UInt8} {Q : UInt8 → Prop} (hc : Q c) : ∀ {ps : List (List UInt8)}, (∀ p ∈ ps, ∀ x ∈ p, Q x) → ∀ x ∈ Lib.join ps [c], Q x
  | [], _ => fun x hx => by simp [Lib.join] at hx
  | [p], h => by rw [Lib.join_one]; exact h p (by simp)
  | p :: q :: r, h => by
    rw [join_two]
    intro x hx
    rcases List.mem_append.1 hx with hx | hx
    · exact h p (by simp) x hx
    · rcases List.mem_cons.1 hx with rfl | hx
      · exact hc
      · exact join_each hc (ps := q :: r) (fun y hy => h y (by simp [List.mem_cons.1 hy])) x hx
theorem dns_bytes {L : List UInt8} (h : dnsB L = true) : ∀ c ∈ L, lblB c = true ∨ c = 46 := by
  unfold dnsB at h
  rw [Bool.and_eq_true] at h
  have := join_each (c := 46) (Q := fun c => lblB c = true ∨ c = 46) (.inr rfl) (ps := pcsL 46 L) (fun p hp x hx => .inl (by
    have hl := List.all_eq_true.1 h.2 p hp
    rw [lbl_def] at hl
    simp only [Bool.and_eq_true] at hl
    exact List.all_eq_true.1 hl.2 x hx))
  rwa [(pcsL_spl 46 L).2.1] at this
theorem dns_head {L : List UInt8} (h : dnsB L = true) : L.head? ≠ some 42 := by
  cases L with
  | nil => simp
  | cons x r =>
    intro e
    obtain rfl : x = 42 := Option.some.inj e
    rcases dns_bytes h 42 (by simp) with k | k
    · exact absurd k (by decide)
    · exact absurd k (by decide)
theorem ct_at {s : List UInt8} (h : ctK 46 s < s.length) : s.drop (ctK 46 s) = 46 :: s.drop (ctK 46 s + 1) := by
  rcases index_cases s 46 with ⟨_, hno⟩ | ⟨i, hi, hlt⟩
  · rw [ctK_miss hno] at h; omega
  · rw [ctK_hit hi hlt]
    obtain ⟨h1, _⟩ := Lib.indexByte_some hi
    exact drop_cons h1
theorem match_cut {r s : List UInt8} (h1 : patB (42 :: 46 :: r) = true) (h2 : dnsB s = true) : dnsMatchB (42 :: 46 :: r) s = alikeB (s.drop (ctK 46 s + 1)) r := by
  rw [match_star h1 h2 rfl, firstK_ct]
  by_cases h : ctK 46 s < s.length
  · rw [decide_eq_true h, Bool.true_and, ct_at h]
    show alikeB (46 :: _) (46 :: r) = _
    unfold alikeB lowL
    rw [List.map_cons, List.map_cons, Bool.eq_iff_iff, decide_eq_true_iff, decide_eq_true_iff, List.cons.injEq]
    exact ⟨fun h => h.2, fun h => ⟨rfl, h⟩⟩
  · rw [decide_eq_false h, Bool.false_and, List.drop_eq_nil_of_le (by omega)]
    rw [pat_star] at h1
    simp only [Bool.and_eq_true] at h1
    cases r with
    | nil => rw [dns_nil] at h1; exact absurd h1.1.2 (by simp)
    | cons x q => symm; unfold alikeB; rw [decide_eq_false (fun k => by cases k)]

set_option maxRecDepth 100000 in
set_option maxHeartbeats 2000000 in
theorem pmatch_any (a b : List UInt8) (ha : a.length ≤ 100000) (hb : b.length ≤ 100000) (w : World) :
    Calls Tryd.prog 24 #[.string (strOf a), .string (strOf b)] w fun e w' => e = .returned (.bool (dnsMatchB a b)) ∧ Below w.heap.size w w' := by
  cases h1 : patB a with
  | false =>
    have HE := Lib.hid (match_no1 (s := b) h1)
    have HP := Lib.hid (fun w => ppat_is h1 ha w)
    clear h1
    go_enter Tryd.func24, Tryd.ntmps24
    go_wp2_with (go_at_call 15; (with_reducible refine (HP.out _).mono ?_); rintro e w1 ⟨rfl, hb1⟩; have HB1 := Lib.hid hb1; clear hb1)
    go_ret
    exact ⟨by rw [HE.out]; rfl, HB1.out⟩
  | true =>
    have HP := Lib.hid (fun w => ppat_is h1 ha w)
    cases h2 : dnsB b with
    | false =>
      have HE := Lib.hid (match_no2 (p := a) h2)
      have HD := Lib.hid (fun w => pdns_is h2 hb w)
      clear h1 h2
      go_enter Tryd.func24, Tryd.ntmps24
      go_wp2_with (first
        | (go_at_call 15; (with_reducible refine (HP.out _).mono ?_); rintro e w1 ⟨rfl, hb1⟩; have HB1 := Lib.hid hb1; clear hb1)
        | (go_at_call 13; (with_reducible refine (HD.out _).mono ?_); rintro e w2 ⟨rfl, hb2⟩; have HB2 := Lib.hid (below_next HB1.out hb2); clear hb2))
      go_ret
      exact ⟨by rw [HE.out]; rfl, HB2.out⟩
    | true =>
      have HD := Lib.hid (fun w => pdns_is h2 hb w)
      rcases pat_form a with ⟨r, rfl⟩ | hn
      · have HE := Lib.hid (match_cut h1 h2)
        have hr : r.length ≤ 100000 := by have : (42 :: 46 :: r : List UInt8).length = r.length + 2 := rfl; omega
        have ar : Asc r := fun c hc => pat_asc h1 c (by simp [hc])
        have HC := Lib.hid (fun w => pcut_any b 46 (by omega) w)
        have HQ := Lib.hid (fun w => peq_any (b.drop (ctK 46 b + 1)) r (by rw [List.length_drop]; omega) ((dns_asc h2).drop _) ar w)
        have HS := Lib.hid (fun w => pstar_yes r w)
        obtain ⟨S, hS⟩ : ∃ S, strOf (42 :: 46 :: r) = S := ⟨_, rfl⟩
        rw [hS] at HS HP ⊢
        generalize b.take (ctK 46 b) = A at HC
        generalize b.drop (ctK 46 b + 1) = B at HC HQ HE
        generalize decide (ctK 46 b < b.length) = t at HC
        clear h1 h2 ar hS
        go_enter Tryd.func24, Tryd.ntmps24
        go_wp2_with (first
          | (go_at_call 15; (with_reducible refine (HP.out _).mono ?_); rintro e w1 ⟨rfl, hb1⟩; have HB1 := Lib.hid hb1; clear hb1)
          | (go_at_call 13; (with_reducible refine (HD.out _).mono ?_); rintro e w2 ⟨rfl, hb2⟩; have HB2 := Lib.hid (below_next HB1.out hb2); clear hb2)
          | (go_at_call 43; (with_reducible refine (HS.out _).mono ?_); rintro e w3 ⟨rfl, rfl⟩)
          | (go_at_call 45; (with_reducible refine (HC.out _).mono ?_); rintro e w4 ⟨rfl, hb4⟩; have HB4 := Lib.hid (below_next HB2.out hb4); clear hb4)
          | (go_at_call 49; (with_reducible refine (HQ.out _).mono ?_); rintro e w5 ⟨rfl, rfl⟩))
        go_ret
        exact ⟨by rw [HE.out]; rfl, HB4.out⟩
      · have h3 : dnsB a = true := by rw [← pat_plain hn]; exact h1
        have HE := Lib.hid (match_plain h1 h2 (dns_head h3))
        have HS := Lib.hid (fun w => pstar_no hn w)
        have HQ := Lib.hid (fun w => peq_any a b ha (dns_asc h3) (dns_asc h2) w)
        clear h1 h2 h3 hn
        go_enter Tryd.func24, Tryd.ntmps24
        go_wp2_with (first
          | (go_at_call 15; (with_reducible refine (HP.out _).mono ?_); rintro e w1 ⟨rfl, hb1⟩; have HB1 := Lib.hid hb1; clear hb1)
          | (go_at_call 13; (with_reducible refine (HD.out _).mono ?_); rintro e w2 ⟨rfl, hb2⟩; have HB2 := Lib.hid (below_next HB1.out hb2); clear hb2)
          | (go_at_call 43; (with_reducible refine (HS.out _).mono ?_); rintro e w3 ⟨rfl, rfl⟩)
          | (go_at_call 49; (with_reducible refine (HQ.out _).mono ?_); rintro e w5 ⟨rfl, rfl⟩))
        go_ret
        exact ⟨by rw [HE.out]; rfl, HB2.out⟩

theorem peq_is {a b : List UInt8} {c : Bool} (h : alikeB a b = c) (ha : a.length ≤ 100000) (aa : Asc a) (ab : Asc b) (w : World) :
    Calls Tryd.prog 49 #[.string (strOf a), .string (strOf b)] w fun e w' => e = .returned (.bool c) ∧ w' = w := by
  have := peq_any a b ha aa ab w
  rwa [h] at this

set_option maxRecDepth 100000 in
set_option maxHeartbeats 2000000 in
theorem pwithin_any (a b : List UInt8) (ha : a.length ≤ 100000) (hb : b.length ≤ 100000) (w : World) :
    Calls Tryd.prog 26 #[.string (strOf a), .string (strOf b)] w fun e w' => e = .returned (.bool (dnsWithinB a b)) ∧ Below w.heap.size w w' := by
  have hdot := dot_of b hb
  by_cases h1 : a = []
  · have hfa : firstArg a = true := by unfold firstArg; rw [decide_eq_true h1]; rfl
    obtain ⟨hae, hap⟩ := empty_is h1
    cases h2 : baseB b with
    | false =>
      have HE := Lib.hid (show dnsWithinB a b = false by rw [within_def, h2]; simp)
      have HB := Lib.hid (fun w => pbase_is h2 hb w)
      clear h1 h2 hdot
      go_enter Tryd.func26, Tryd.ntmps26
      go_wp2_with (go_at_call 17; (with_reducible refine (HB.out _).mono ?_); rintro e w2 ⟨rfl, hb2⟩; have HB2 := Lib.hid hb2; clear hb2)
      go_ret
      exact ⟨by rw [HE.out]; rfl, HB2.out⟩
    | true =>
      have HB := Lib.hid (fun w => pbase_is h2 hb w)
      by_cases h3 : b = []
      · have HE := Lib.hid (show dnsWithinB a b = true by rw [within_def, h2, hfa, decide_eq_true h3]; rfl)
        obtain ⟨hbe, hbp⟩ := empty_is h3
        clear h1 h2 h3 hfa hdot
        go_enter Tryd.func26, Tryd.ntmps26
        go_wp2_with (go_at_call 17; (with_reducible refine (HB.out _).mono ?_); rintro e w2 ⟨rfl, hb2⟩; have HB2 := Lib.hid hb2; clear hb2)
        go_ret
        exact ⟨by rw [HE.out]; rfl, HB2.out⟩
      · have HE0 := Lib.hid (show dnsWithinB a b = (alikeB a b || endsB a (46 :: b)) by rw [within_def, h2, hfa, decide_eq_false h3]; rfl)
        obtain ⟨hbe, hbp⟩ := empty_not h3
        have aa : Asc a := by rw [h1]; exact fun c hc => by simp at hc
        have ab : Asc b := base_asc h2
        have HN := Lib.hid (fun w => pends_any a (46 :: b) ha (by simp only [List.length_cons]; omega) aa (ab.cons (by decide)) w)
        cases h4 : alikeB a b with
        | true =>
          have HE := Lib.hid (show dnsWithinB a b = true by rw [HE0.out, h4]; rfl)
          have HQ := Lib.hid (fun w => peq_is h4 ha aa ab w)
          clear h1 h2 h3 h4 hfa aa ab hdot
          go_enter Tryd.func26, Tryd.ntmps26
          go_wp2_with (first
            | (go_at_call 17; (with_reducible refine (HB.out _).mono ?_); rintro e w2 ⟨rfl, hb2⟩; have HB2 := Lib.hid hb2; clear hb2)
            | (go_at_call 49; (with_reducible refine (HQ.out _).mono ?_); rintro e w3 ⟨rfl, rfl⟩))
          go_ret
          exact ⟨by rw [HE.out]; rfl, HB2.out⟩
        | false =>
          have HE := Lib.hid (show dnsWithinB a b = endsB a (46 :: b) by rw [HE0.out, h4]; rfl)
          have HQ := Lib.hid (fun w => peq_is h4 ha aa ab w)
          obtain ⟨T, hT⟩ : ∃ T, strOf (46 :: b) = T := ⟨_, rfl⟩
          generalize endsB a (46 :: b) = t at HN HE
          rw [hT] at HN hdot
          clear h1 h2 h3 h4 hfa aa ab hT
          go_enter Tryd.func26, Tryd.ntmps26
          go_wp2_with (first
            | (go_at_call 17; (with_reducible refine (HB.out _).mono ?_); rintro e w2 ⟨rfl, hb2⟩; have HB2 := Lib.hid hb2; clear hb2)
            | (go_at_call 49; (with_reducible refine (HQ.out _).mono ?_); rintro e w3 ⟨rfl, rfl⟩)
            | (go_at_call 51; (with_reducible refine (HN.out _).mono ?_); rintro e w4 ⟨rfl, rfl⟩))
          go_ret
          exact ⟨by rw [HE.out]; rfl, HB2.out⟩
  · obtain ⟨hae, hap⟩ := empty_not h1
    cases h0 : patB a with
    | false =>
      have HE := Lib.hid (show dnsWithinB a b = false by rw [within_def, show firstArg a = false by unfold firstArg; rw [decide_eq_false h1, h0]; rfl]; rfl)
      have HP := Lib.hid (fun w => ppat_is h0 ha w)
      clear h0 h1 hdot
      go_enter Tryd.func26, Tryd.ntmps26
      go_wp2_with (go_at_call 15; (with_reducible refine (HP.out _).mono ?_); rintro e w1 ⟨rfl, hb1⟩; have HB1 := Lib.hid hb1; clear hb1)
      go_ret
      exact ⟨by rw [HE.out]; rfl, HB1.out⟩
    | true =>
      have HP := Lib.hid (fun w => ppat_is h0 ha w)
      have hfa : firstArg a = true := by unfold firstArg; rw [h0]; simp
      have ha0 : Asc a := pat_asc h0
      clear h0
      cases h2 : baseB b with
      | false =>
        have HE := Lib.hid (show dnsWithinB a b = false by rw [within_def, h2]; simp)
        have HB := Lib.hid (fun w => pbase_is h2 hb w)
        clear h1 h2 hdot
        go_enter Tryd.func26, Tryd.ntmps26
        go_wp2_with (first
          | (go_at_call 15; (with_reducible refine (HP.out _).mono ?_); rintro e w1 ⟨rfl, hb1⟩; have HB1 := Lib.hid hb1; clear hb1)
          | (go_at_call 17; (with_reducible refine (HB.out _).mono ?_); rintro e w2 ⟨rfl, hb2⟩; have HB2 := Lib.hid (below_next HB1.out hb2); clear hb2))
        go_ret
        exact ⟨by rw [HE.out]; rfl, HB2.out⟩
      | true =>
        have HB := Lib.hid (fun w => pbase_is h2 hb w)
        by_cases h3 : b = []
        · have HE := Lib.hid (show dnsWithinB a b = true by rw [within_def, h2, hfa, decide_eq_true h3]; rfl)
          obtain ⟨hbe, hbp⟩ := empty_is h3
          clear h1 h2 h3 hfa hdot
          go_enter Tryd.func26, Tryd.ntmps26
          go_wp2_with (first
            | (go_at_call 15; (with_reducible refine (HP.out _).mono ?_); rintro e w1 ⟨rfl, hb1⟩; have HB1 := Lib.hid hb1; clear hb1)
            | (go_at_call 17; (with_reducible refine (HB.out _).mono ?_); rintro e w2 ⟨rfl, hb2⟩; have HB2 := Lib.hid (below_next HB1.out hb2); clear hb2))
          go_ret
          exact ⟨by rw [HE.out]; rfl, HB2.out⟩
        · have HE0 := Lib.hid (show dnsWithinB a b = (alikeB a b || endsB a (46 :: b)) by rw [within_def, h2, hfa, decide_eq_false h3]; rfl)
          obtain ⟨hbe, hbp⟩ := empty_not h3
          have aa : Asc a := ha0
          have ab : Asc b := base_asc h2
          have HN := Lib.hid (fun w => pends_any a (46 :: b) ha (by simp only [List.length_cons]; omega) aa (ab.cons (by decide)) w)
          cases h4 : alikeB a b with
          | true =>
            have HE := Lib.hid (show dnsWithinB a b = true by rw [HE0.out, h4]; rfl)
            have HQ := Lib.hid (fun w => peq_is h4 ha aa ab w)
            clear h1 h2 h3 h4 hfa aa ab hdot
            go_enter Tryd.func26, Tryd.ntmps26
            go_wp2_with (first
              | (go_at_call 15; (with_reducible refine (HP.out _).mono ?_); rintro e w1 ⟨rfl, hb1⟩; have HB1 := Lib.hid hb1; clear hb1)
              | (go_at_call 17; (with_reducible refine (HB.out _).mono ?_); rintro e w2 ⟨rfl, hb2⟩; have HB2 := Lib.hid (below_next HB1.out hb2); clear hb2)
              | (go_at_call 49; (with_reducible refine (HQ.out _).mono ?_); rintro e w3 ⟨rfl, rfl⟩))
            go_ret
            exact ⟨by rw [HE.out]; rfl, HB2.out⟩
          | false =>
            have HE := Lib.hid (show dnsWithinB a b = endsB a (46 :: b) by rw [HE0.out, h4]; rfl)
            have HQ := Lib.hid (fun w => peq_is h4 ha aa ab w)
            obtain ⟨T, hT⟩ : ∃ T, strOf (46 :: b) = T := ⟨_, rfl⟩
            generalize endsB a (46 :: b) = t at HN HE
            rw [hT] at HN hdot
            clear h1 h2 h3 h4 hfa aa ab hT
            go_enter Tryd.func26, Tryd.ntmps26
            go_wp2_with (first
              | (go_at_call 15; (with_reducible refine (HP.out _).mono ?_); rintro e w1 ⟨rfl, hb1⟩; have HB1 := Lib.hid hb1; clear hb1)
              | (go_at_call 17; (with_reducible refine (HB.out _).mono ?_); rintro e w2 ⟨rfl, hb2⟩; have HB2 := Lib.hid (below_next HB1.out hb2); clear hb2)
              | (go_at_call 49; (with_reducible refine (HQ.out _).mono ?_); rintro e w3 ⟨rfl, rfl⟩)
              | (go_at_call 51; (with_reducible refine (HN.out _).mono ?_); rintro e w4 ⟨rfl, rfl⟩))
            go_ret
            exact ⟨by rw [HE.out]; rfl, HB2.out⟩
end Go.Proofs.YtoogfipmdkneoaaDoor
