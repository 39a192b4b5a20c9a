/-
  The contracts of MailMatch, domainWithin and MailWithin of the program. They ask that the library's variable MaxLen holds some number.
-/
import Derived.Test.YtofadgmnjckpcaaGreatDoorUat
import Derived.Test.YtofadgmnjckpcaaGreatDoorUai
namespace Go.Proofs.YtofadgmnjckpcaaGreatDoor
open Go.RowKit

theorem mail_dom {L : List UInt8} (h : mailB L = true) : dnsB (domP L) = true := by
  rw [mail_parts] at h
  simp only [Bool.and_eq_true] at h
  exact h.2
theorem undot_asc {L : List UInt8} (h : dnsB (undot L) = true) : Asc L := by
  unfold undot at h
  by_cases k : L.head? = some 46
  · cases L with
    | nil => cases k
    | cons x r =>
      obtain rfl : x = 46 := Option.some.inj k
      rw [if_pos k] at h
      exact (dns_asc h).cons (by decide)
  · rw [if_neg k] at h
    exact dns_asc h
theorem base_asc2 {L : List UInt8} (h : mailBaseB L = true) (h2 : mailB L = false) : Asc L := by
  rw [base_parts, h2, Bool.false_or, Bool.and_eq_true] at h
  exact undot_asc h.2
theorem mm_no1 {a b : List UInt8} (h : mailB a = false) : mailMatchB a b = false := by unfold mailMatchB; rw [h]; rfl
theorem mm_no2 {a b : List UInt8} (h : mailB b = false) : mailMatchB a b = false := by unfold mailMatchB; rw [h]; simp
theorem mm_yes {a b : List UInt8} (h1 : mailB a = true) (h2 : mailB b = true) : mailMatchB a b = (decide (localP a = localP b) && alikeB (domP a) (domP b)) := by unfold mailMatchB; rw [h1, h2]; rfl
theorem pparts_any (L : List UInt8) (hL : L.length ≤ 100000) (w : World) :
    Calls Tryz.prog 99 #[.string (strOf L), .string ⟨#[64]⟩] w fun e w' =>
      e = .returned (.tuple #[.string (strOf (localP L)), .string (strOf (domP L)), .bool (decide (ctK 64 L < L.length))]) ∧ Below w.heap.size w w' := pcut_any L 64 (by omega) w
theorem domP_le (L : List UInt8) : (domP L).length ≤ L.length := by
  show (L.drop (atK L + 1)).length ≤ _
  rw [List.length_drop]
  omega

set_option maxRecDepth 100000 in
set_option maxHeartbeats 2000000 in
theorem pmm_any (a b : List UInt8) (ha : a.length ≤ 100000) (hb : b.length ≤ 100000) (w : World) (hm : Mx w) :
    Calls Tryz.prog 93 #[.string (strOf a), .string (strOf b)] w fun e w' => e = .returned (.bool (mailMatchB a b)) ∧ Below w.heap.size w w' := by
  have HM := Lib.hid hm
  clear hm
  cases h1 : mailB a with
  | false =>
    have HE := Lib.hid (mm_no1 (b := b) h1)
    have H1 := Lib.hid (fun w hm => pmail_is h1 ha w hm)
    clear h1
    go_enter Tryz.func93, Tryz.ntmps93
    go_wp2_with (go_at_call 92; (with_reducible refine (H1.out _ HM.out).mono ?_); rintro e w1 ⟨rfl, hb1⟩; have HB1 := Lib.hid hb1; clear hb1)
    go_ret
    exact ⟨by rw [HE.out]; rfl, HB1.out⟩
  | true =>
    have H1 := Lib.hid (fun w hm => pmail_is h1 ha w hm)
    cases h2 : mailB b with
    | false =>
      have HE := Lib.hid (mm_no2 (a := a) h2)
      have H2 := Lib.hid (fun w hm => pmail_is h2 hb w hm)
      obtain ⟨A, hA⟩ : ∃ A, strOf a = A := ⟨_, rfl⟩
      obtain ⟨B, hB⟩ : ∃ B, strOf b = B := ⟨_, rfl⟩
      rw [hA] at H1 ⊢
      rw [hB] at H2 ⊢
      clear h1 h2 hA hB
      go_enter Tryz.func93, Tryz.ntmps93
      go_wp2_with (first
        | (go_at_call 92; (with_reducible refine (H1.out _ HM.out).mono ?_); rintro e w1 ⟨rfl, hb1⟩; have HB1 := Lib.hid hb1; clear hb1; clear H1)
        | (go_at_call 92; (with_reducible refine (H2.out _ (HM.out.below HB1.out)).mono ?_); rintro e w2 ⟨rfl, hb2⟩; have HB2 := Lib.hid (below_next HB1.out hb2); clear hb2; clear H2))
      go_ret
      exact ⟨by rw [HE.out]; rfl, HB2.out⟩
    | true =>
      have H2 := Lib.hid (fun w hm => pmail_is h2 hb w hm)
      have HE0 := Lib.hid (mm_yes h1 h2)
      have H3 := Lib.hid (fun w => pparts_any a ha w)
      have H4 := Lib.hid (fun w => pparts_any b hb w)
      have HQ := Lib.hid (fun w => peq_any (domP a) (domP b) (Nat.le_trans (domP_le a) ha) (dns_asc (mail_dom h1)) (dns_asc (mail_dom h2)) w)
      generalize alikeB (domP a) (domP b) = q at HQ HE0
      generalize domP a = da at H3 HQ
      generalize domP b = db at H4 HQ
      generalize decide (ctK 64 a < a.length) = ta at H3
      generalize decide (ctK 64 b < b.length) = tb at H4
      obtain ⟨A, hA⟩ : ∃ A, strOf a = A := ⟨_, rfl⟩
      obtain ⟨B, hB⟩ : ∃ B, strOf b = B := ⟨_, rfl⟩
      rw [hA] at H1 H3 ⊢
      rw [hB] at H2 H4 ⊢
      clear h1 h2 hA hB
      by_cases h3 : localP a = localP b
      · have HE := Lib.hid (show mailMatchB a b = q by rw [HE0.out, decide_eq_true h3]; rfl)
        obtain ⟨f1, f2⟩ := same_is h3
        generalize localP a = la at *
        generalize localP b = lb at *
        clear h3
        go_enter Tryz.func93, Tryz.ntmps93
        go_wp2_with (first
          | (go_at_call 92; (with_reducible refine (H1.out _ HM.out).mono ?_); rintro e w1 ⟨rfl, hb1⟩; have HB1 := Lib.hid hb1; clear hb1; clear H1)
          | (go_at_call 92; (with_reducible refine (H2.out _ (HM.out.below HB1.out)).mono ?_); rintro e w2 ⟨rfl, hb2⟩; have HB2 := Lib.hid (below_next HB1.out hb2); clear hb2; clear H2)
          | (go_at_call 99; (with_reducible refine (H3.out _).mono ?_); rintro e w3 ⟨rfl, hb3⟩; have HB3 := Lib.hid (below_next HB2.out hb3); clear hb3; clear H3)
          | (go_at_call 99; (with_reducible refine (H4.out _).mono ?_); rintro e w4 ⟨rfl, hb4⟩; have HB4 := Lib.hid (below_next HB3.out hb4); clear hb4; clear H4)
          | (go_at_call 103; (with_reducible refine (HQ.out _).mono ?_); rintro e w9 ⟨rfl, rfl⟩))
        go_ret
        exact ⟨by rw [HE.out]; rfl, HB4.out⟩
      · have HE := Lib.hid (show mailMatchB a b = false by rw [HE0.out, decide_eq_false h3]; rfl)
        obtain ⟨f1, f2⟩ := same_not h3
        generalize localP a = la at *
        generalize localP b = lb at *
        clear h3
        go_enter Tryz.func93, Tryz.ntmps93
        go_wp2_with (first
          | (go_at_call 92; (with_reducible refine (H1.out _ HM.out).mono ?_); rintro e w1 ⟨rfl, hb1⟩; have HB1 := Lib.hid hb1; clear hb1; clear H1)
          | (go_at_call 92; (with_reducible refine (H2.out _ (HM.out.below HB1.out)).mono ?_); rintro e w2 ⟨rfl, hb2⟩; have HB2 := Lib.hid (below_next HB1.out hb2); clear hb2; clear H2)
          | (go_at_call 99; (with_reducible refine (H3.out _).mono ?_); rintro e w3 ⟨rfl, hb3⟩; have HB3 := Lib.hid (below_next HB2.out hb3); clear hb3; clear H3)
          | (go_at_call 99; (with_reducible refine (H4.out _).mono ?_); rintro e w4 ⟨rfl, hb4⟩; have HB4 := Lib.hid (below_next HB3.out hb4); clear hb4; clear H4))
        go_ret
        exact ⟨by rw [HE.out]; rfl, HB4.out⟩
set_option maxRecDepth 100000 in
set_option maxHeartbeats 2000000 in
theorem prel_any (d b : List UInt8) (hd : d.length ≤ 100000) (hb : b.length ≤ 100000) (ad : Asc d) (ab : Asc b) (w : World) :
    Calls Tryz.prog 100 #[.string (strOf d), .string (strOf b)] w fun e w' => e = .returned (.bool (relB d b)) ∧ w' = w := by
  cases h1 : alikeB d b with
  | true =>
    have HE := Lib.hid (show relB d b = true by unfold relB; rw [h1]; rfl)
    have HQ := Lib.hid (fun w => peq_is h1 hd ad ab w)
    clear h1 ad ab
    go_enter Tryz.func100, Tryz.ntmps100
    go_wp2_with (go_at_call 103; (with_reducible refine (HQ.out _).mono ?_); rintro e w9 ⟨rfl, rfl⟩)
    go_ret
    exact ⟨by rw [HE.out]; rfl, rfl⟩
  | false =>
    have HQ := Lib.hid (fun w => peq_is h1 hd ad ab w)
    cases h2 : (b.head? == some 46) with
    | false =>
      have HE := Lib.hid (show relB d b = false by unfold relB; rw [h1, h2]; rfl)
      have HP := Lib.hid (fun w => ppre_is h2 w)
      clear h1 h2 ad ab
      go_enter Tryz.func100, Tryz.ntmps100
      go_wp2_with (first
        | (go_at_call 103; (with_reducible refine (HQ.out _).mono ?_); rintro e w9 ⟨rfl, rfl⟩)
        | (go_at_call 119; (with_reducible refine (HP.out _).mono ?_); rintro e w9 ⟨rfl, rfl⟩))
      go_ret
      exact ⟨by rw [HE.out]; rfl, rfl⟩
    | true =>
      have HE := Lib.hid (show relB d b = endsB d b by unfold relB; rw [h1, h2]; rfl)
      have HP := Lib.hid (fun w => ppre_is h2 w)
      have HN := Lib.hid (fun w => pends_any d b hd (by omega) ad ab w)
      generalize endsB d b = t at HN HE
      clear h1 h2 ad ab
      go_enter Tryz.func100, Tryz.ntmps100
      go_wp2_with (first
        | (go_at_call 103; (with_reducible refine (HQ.out _).mono ?_); rintro e w9 ⟨rfl, rfl⟩)
        | (go_at_call 119; (with_reducible refine (HP.out _).mono ?_); rintro e w9 ⟨rfl, rfl⟩)
        | (go_at_call 104; (with_reducible refine (HN.out _).mono ?_); rintro e w9 ⟨rfl, rfl⟩))
      go_ret
      exact ⟨by rw [HE.out]; rfl, rfl⟩
theorem mail_base {L : List UInt8} (h : mailB L = true) : mailBaseB L = true := by rw [base_parts, h]; rfl
theorem mwp_def (s b : List UInt8) : mailWithinB s b = (mailBaseB b && (if mailB s = true then (if mailB b = true then mailMatchB s b else relB (domP s) b) else mailBaseB s && !mailB b && relB s b)) := rfl
set_option maxRecDepth 100000 in
set_option maxHeartbeats 4000000 in
theorem pmw_any (a b : List UInt8) (ha : a.length ≤ 100000) (hb : b.length ≤ 100000) (w : World) (hm : Mx w) :
    Calls Tryz.prog 80 #[.string (strOf a), .string (strOf b)] w fun e w' => e = .returned (.bool (mailWithinB a b)) ∧ Below w.heap.size w w' := by
  have HM := Lib.hid hm
  clear hm
  cases h1 : mailBaseB a with
  | false =>
    have h1m : mailB a = false := by
      cases h : mailB a with
      | false => rfl
      | true => rw [mail_base h] at h1; cases h1
    have HE := Lib.hid (show mailWithinB a b = false by rw [mwp_def, h1m, if_neg (by simp), h1]; simp)
    have H1 := Lib.hid (fun w hm => pmb_is h1 ha w hm)
    clear h1 h1m
    go_enter Tryz.func80, Tryz.ntmps80
    go_wp2_with (go_at_call 98; (with_reducible refine (H1.out _ HM.out).mono ?_); rintro e w1 ⟨rfl, hb1⟩; have HB1 := Lib.hid hb1; clear hb1)
    go_ret
    exact ⟨by rw [HE.out]; rfl, HB1.out⟩
  | true =>
    have H1 := Lib.hid (fun w hm => pmb_is h1 ha w hm)
    cases h2 : mailBaseB b with
    | false =>
      have HE := Lib.hid (show mailWithinB a b = false by rw [mwp_def, h2]; rfl)
      have H2 := Lib.hid (fun w hm => pmb_is h2 hb w hm)
      obtain ⟨A, hA⟩ : ∃ A, strOf a = A := ⟨_, rfl⟩
      obtain ⟨B, hB⟩ : ∃ B, strOf b = B := ⟨_, rfl⟩
      rw [hA] at H1 ⊢
      rw [hB] at H2 ⊢
      clear h1 h2 hA hB
      go_enter Tryz.func80, Tryz.ntmps80
      go_wp2_with (first
        | (go_at_call 98; (with_reducible refine (H1.out _ HM.out).mono ?_); rintro e w1 ⟨rfl, hb1⟩; have HB1 := Lib.hid hb1; clear hb1; clear H1)
        | (go_at_call 98; (with_reducible refine (H2.out _ (HM.out.below HB1.out)).mono ?_); rintro e w2 ⟨rfl, hb2⟩; have HB2 := Lib.hid (below_next HB1.out hb2); clear hb2; clear H2))
      go_ret
      exact ⟨by rw [HE.out]; rfl, HB2.out⟩
    | true =>
      have H2 := Lib.hid (fun w hm => pmb_is h2 hb w hm)
      cases h3 : mailB b with
      | true =>
        have HE := Lib.hid (show mailWithinB a b = mailMatchB a b by
          rw [mwp_def, h2, h3, Bool.true_and, if_pos rfl]
          cases h : mailB a with
          | true => rfl
          | false => rw [mm_no1 h]; simp)
        have H3 := Lib.hid (fun w hm => pmail_is h3 hb w hm)
        have H4 := Lib.hid (fun w hm => pmm_any a b ha hb w hm)
        generalize mailMatchB a b = q at HE H4
        obtain ⟨A, hA⟩ : ∃ A, strOf a = A := ⟨_, rfl⟩
        obtain ⟨B, hB⟩ : ∃ B, strOf b = B := ⟨_, rfl⟩
        rw [hA] at H1 H4 ⊢
        rw [hB] at H2 H3 H4 ⊢
        clear h1 h2 h3 hA hB
        go_enter Tryz.func80, Tryz.ntmps80
        go_wp2_with (first
          | (go_at_call 98; (with_reducible refine (H1.out _ HM.out).mono ?_); rintro e w1 ⟨rfl, hb1⟩; have HB1 := Lib.hid hb1; clear hb1; clear H1)
          | (go_at_call 98; (with_reducible refine (H2.out _ (HM.out.below HB1.out)).mono ?_); rintro e w2 ⟨rfl, hb2⟩; have HB2 := Lib.hid (below_next HB1.out hb2); clear hb2; clear H2)
          | (go_at_call 92; (with_reducible refine (H3.out _ (HM.out.below HB2.out)).mono ?_); rintro e w3 ⟨rfl, hb3⟩; have HB3 := Lib.hid (below_next HB2.out hb3); clear hb3; clear H3)
          | (go_at_call 93; (with_reducible refine (H4.out _ (HM.out.below HB3.out)).mono ?_); rintro e w4 ⟨rfl, hb4⟩; have HB4 := Lib.hid (below_next HB3.out hb4); clear hb4))
        go_ret
        exact ⟨by rw [HE.out]; rfl, HB4.out⟩
      | false =>
        have H3 := Lib.hid (fun w hm => pmail_is h3 hb w hm)
        have ab : Asc b := base_asc2 h2 h3
        cases h4 : mailB a with
        | true =>
          have HE := Lib.hid (show mailWithinB a b = relB (domP a) b by rw [mwp_def, h2, h3, h4]; rfl)
          have H4 := Lib.hid (fun w hm => pmail_is h4 ha w hm)
          have H5 := Lib.hid (fun w => pparts_any a ha w)
          have HR := Lib.hid (fun w => prel_any (domP a) b (Nat.le_trans (domP_le a) ha) hb (dns_asc (mail_dom h4)) ab w)
          generalize relB (domP a) b = q at HE HR
          generalize domP a = D at HR H5
          generalize localP a = L at H5
          generalize decide (ctK 64 a < a.length) = t at H5
          obtain ⟨A, hA⟩ : ∃ A, strOf a = A := ⟨_, rfl⟩
          obtain ⟨B, hB⟩ : ∃ B, strOf b = B := ⟨_, rfl⟩
          rw [hA] at H1 H4 H5 ⊢
          rw [hB] at H2 H3 HR ⊢
          clear h1 h2 h3 h4 ab hA hB
          go_enter Tryz.func80, Tryz.ntmps80
          go_wp2_with (first
            | (go_at_call 98; (with_reducible refine (H1.out _ HM.out).mono ?_); rintro e w1 ⟨rfl, hb1⟩; have HB1 := Lib.hid hb1; clear hb1; clear H1)
            | (go_at_call 98; (with_reducible refine (H2.out _ (HM.out.below HB1.out)).mono ?_); rintro e w2 ⟨rfl, hb2⟩; have HB2 := Lib.hid (below_next HB1.out hb2); clear hb2; clear H2)
            | (go_at_call 92; (with_reducible refine (H3.out _ (HM.out.below HB2.out)).mono ?_); rintro e w3 ⟨rfl, hb3⟩; have HB3 := Lib.hid (below_next HB2.out hb3); clear hb3; clear H3)
            | (go_at_call 92; (with_reducible refine (H4.out _ (HM.out.below HB3.out)).mono ?_); rintro e w4 ⟨rfl, hb4⟩; have HB4 := Lib.hid (below_next HB3.out hb4); clear hb4; clear H4)
            | (go_at_call 99; (with_reducible refine (H5.out _).mono ?_); rintro e w5 ⟨rfl, hb5⟩; have HB5 := Lib.hid (below_next HB4.out hb5); clear hb5)
            | (go_at_call 100; (with_reducible refine (HR.out _).mono ?_); rintro e w9 ⟨rfl, rfl⟩))
          go_ret
          exact ⟨by rw [HE.out]; rfl, HB5.out⟩
        | false =>
          have HE := Lib.hid (show mailWithinB a b = relB a b by rw [mwp_def, h1, h2, h3, h4]; rfl)
          have H4 := Lib.hid (fun w hm => pmail_is h4 ha w hm)
          have HR := Lib.hid (fun w => prel_any a b ha hb (base_asc2 h1 h4) ab w)
          generalize relB a b = q at HE HR
          obtain ⟨A, hA⟩ : ∃ A, strOf a = A := ⟨_, rfl⟩
          obtain ⟨B, hB⟩ : ∃ B, strOf b = B := ⟨_, rfl⟩
          rw [hA] at H1 H4 HR ⊢
          rw [hB] at H2 H3 HR ⊢
          clear h1 h2 h3 h4 ab hA hB
          go_enter Tryz.func80, Tryz.ntmps80
          go_wp2_with (first
            | (go_at_call 98; (with_reducible refine (H1.out _ HM.out).mono ?_); rintro e w1 ⟨rfl, hb1⟩; have HB1 := Lib.hid hb1; clear hb1; clear H1)
            | (go_at_call 98; (with_reducible refine (H2.out _ (HM.out.below HB1.out)).mono ?_); rintro e w2 ⟨rfl, hb2⟩; have HB2 := Lib.hid (below_next HB1.out hb2); clear hb2; clear H2)
            | (go_at_call 92; (with_reducible refine (H3.out _ (HM.out.below HB2.out)).mono ?_); rintro e w3 ⟨rfl, hb3⟩; have HB3 := Lib.hid (below_next HB2.out hb3); clear hb3; clear H3)
            | (go_at_call 92; (with_reducible refine (H4.out _ (HM.out.below HB3.out)).mono ?_); rintro e w4 ⟨rfl, hb4⟩; have HB4 := Lib.hid (below_next HB3.out hb4); clear hb4; clear H4)
            | (go_at_call 100; (with_reducible refine (HR.out _).mono ?_); rintro e w9 ⟨rfl, rfl⟩))
          go_ret
          exact ⟨by rw [HE.out]; rfl, HB4.out⟩
end Go.Proofs.YtofadgmnjckpcaaGreatDoor
