/-
  The contracts of Mail, MailBase, MailMatch and MailWithin of the program. They ask that the library's variable MaxLen holds some number.
  The contracts of MailMatch, domainWithin and MailWithin of the program. They ask that the library's variable MaxLen holds some number.
-/
import Derived.Test.YtbpdenfiifcfcaaGreatDoorMay
import Derived.Test.YtbpdenfiifcfcaaGreatDoorMan
namespace Go.Proofs.YtbpdenfiifcfcaaGreatDoor
open Go.RowKit

/-! ### The local part -/
theorem contains_cons (c : UInt8) (r : List UInt8) : Lib.contains (c :: r) [46, 46] = ((c == 46 && r.head? == some 46) || Lib.contains r [46, 46]) := by
  have hp : List.isPrefixOf [46, 46] (c :: r) = (c == 46 && r.head? == some 46) := by
    rw [Bool.eq_iff_iff, List.isPrefixOf_iff_prefix, Bool.and_eq_true, beq_iff_eq, beq_iff_eq]
    constructor
    · rintro ⟨q, hq⟩
      obtain ⟨rfl, rfl⟩ := List.cons.inj hq
      exact ⟨rfl, rfl⟩
    · rintro ⟨rfl, k⟩
      cases r with
      | nil => cases k
      | cons x q =>
        obtain rfl : x = 46 := Option.some.inj k
        exact ⟨q, rfl⟩
  unfold Lib.contains
  rw [Lib.index, hp]
  have hge := Lib.index_ge r [46, 46]
  cases (c == 46 && r.head? == some 46) with
  | true => rfl
  | false =>
    rw [if_neg (by simp), Bool.false_or]
    by_cases h : Lib.index r [46, 46] = -1
    · rw [h]; rfl
    · rw [if_neg (by rw [beq_iff_eq]; exact h), decide_eq_decide]
      omega
theorem local_split : ∀ (p : List UInt8), localB p = (!Lib.contains p [46, 46] && p.all locB)
  | [] => by decide
  | c :: r => by
    have ih := local_split r
    show ((alnum c.toNat || signsL.contains c) && !(c == 46 && r.head? == some 46) && localB r) = _
    rw [ih, contains_cons, List.all_cons, Bool.not_or]
    show (locB c && _ && _) = _
    generalize locB c = x
    generalize (!(c == 46 && r.head? == some 46)) = y
    generalize (!Lib.contains r [46, 46]) = z
    generalize r.all locB = t
    cases x <;> cases y <;> cases z <;> cases t <;> rfl
def locP (p : List UInt8) : Bool := decide (p ≠ []) && decide (p.length ≤ 64) && p.head? != some 46 && p.getLast? != some 46 && localB p
theorem pdd_any (p : List UInt8) (hp : p.length ≤ 150000) (w : World) (hm : Mx w) :
    Calls Tryz.prog 155 #[.string (strOf p), .string ⟨#[46, 46]⟩] w fun e w' => e = .returned (.bool (Lib.contains p [46, 46])) ∧ w' = w := by
  obtain ⟨m, hm⟩ := hm
  exact Any.strings_Contains lays144 (strOf p) ⟨#[46, 46]⟩ m w (by rw [strOf_size]; omega) hm
theorem pdd_is {p : List UInt8} {b : Bool} (h : Lib.contains p [46, 46] = b) (hp : p.length ≤ 150000) (w : World) (hm : Mx w) :
    Calls Tryz.prog 155 #[.string (strOf p), .string ⟨#[46, 46]⟩] w fun e w' => e = .returned (.bool b) ∧ w' = w := by
  have := pdd_any p hp w hm
  rwa [h] at this
theorem ppre_is {L : List UInt8} {b : Bool} (h : (L.head? == some 46) = b) (w : World) : Calls Tryz.prog 164 #[.string (strOf L), .string ⟨#[46]⟩] w fun e w' => e = .returned (.bool b) ∧ w' = w := by
  have := ppre_dot L w
  rwa [h] at this
theorem psuf_is {L : List UInt8} {b : Bool} (h : (L.getLast? == some 46) = b) (hL : L.length ≤ 1000000) (w : World) : Calls Tryz.prog 175 #[.string (strOf L), .string ⟨#[46]⟩] w fun e w' => e = .returned (.bool b) ∧ w' = w := by
  have := psuf_dot L hL w
  rwa [h] at this
theorem pxb_is {L : List UInt8} {b : Bool} (h : L.all locB = b) (hL : L.length ≤ 150000) (w : World) : Calls Tryz.prog 176 #[.string (strOf L), .func (.func 177) #[] #[]] w fun e w' => e = .returned (.bool b) ∧ w' = w := by
  have := pcons_xb L hL w
  rwa [h] at this

set_option maxRecDepth 100000 in
set_option maxHeartbeats 2000000 in
theorem plocal_any (p : List UInt8) (hp : p.length ≤ 150000) (w : World) (hm : Mx w) :
    Calls Tryz.prog 153 #[.string (strOf p)] w fun e w' => e = .returned (.bool (locP p)) ∧ w' = w := by
  have es := strOf_size p
  by_cases h0 : p = []
  · have HE := Lib.hid (show locP p = false by unfold locP; rw [h0]; rfl)
    obtain ⟨f1, f2⟩ := empty_is h0
    clear h0
    go_enter Tryz.func153, Tryz.ntmps153
    go_wp2_with fail
    go_ret
    exact ⟨by rw [HE.out]; rfl, rfl⟩
  · obtain ⟨f1, f2⟩ := empty_not h0
    by_cases h1 : p.length ≤ 64
    · have d1 : decide ((64 : Int) < (p.length : Int)) = false := by simp; omega
      cases h2 : (p.head? == some 46) with
      | true =>
        have HE := Lib.hid (show locP p = false by unfold locP; rw [show (p.head? != some 46) = false by unfold bne; rw [h2]; rfl]; simp)
        have H1 := Lib.hid (fun w => ppre_is h2 w)
        clear h0 h2
        go_enter Tryz.func153, Tryz.ntmps153
        go_wp2_with (go_at_call 164; (with_reducible refine (H1.out _).mono ?_); rintro e w1 ⟨rfl, rfl⟩)
        go_ret
        exact ⟨by rw [HE.out]; rfl, rfl⟩
      | false =>
        have H1 := Lib.hid (fun w => ppre_is h2 w)
        cases h3 : (p.getLast? == some 46) with
        | true =>
          have HE := Lib.hid (show locP p = false by unfold locP; rw [show (p.getLast? != some 46) = false by unfold bne; rw [h3]; rfl]; simp)
          have H2 := Lib.hid (fun w => psuf_is h3 (by omega) w)
          clear h0 h2 h3
          go_enter Tryz.func153, Tryz.ntmps153
          go_wp2_with (first
            | (go_at_call 164; (with_reducible refine (H1.out _).mono ?_); rintro e w1 ⟨rfl, rfl⟩)
            | (go_at_call 175; (with_reducible refine (H2.out _).mono ?_); rintro e w1 ⟨rfl, rfl⟩))
          go_ret
          exact ⟨by rw [HE.out]; rfl, rfl⟩
        | false =>
          have H2 := Lib.hid (fun w => psuf_is h3 (by omega) w)
          have HE0 := Lib.hid (show locP p = localB p by
            unfold locP
            rw [decide_eq_true h0, decide_eq_true h1, show (p.head? != some 46) = true by unfold bne; rw [h2]; rfl, show (p.getLast? != some 46) = true by unfold bne; rw [h3]; rfl]
            rfl)
          cases h4 : Lib.contains p [46, 46] with
          | true =>
            have HE := Lib.hid (show locP p = false by rw [HE0.out, local_split, h4]; rfl)
            have H3 := Lib.hid (pdd_is h4 hp w hm)
            clear h0 h2 h3 h4 hm
            go_enter Tryz.func153, Tryz.ntmps153
            go_wp2_with (first
              | (go_at_call 164; (with_reducible refine (H1.out _).mono ?_); rintro e w1 ⟨rfl, rfl⟩)
              | (go_at_call 175; (with_reducible refine (H2.out _).mono ?_); rintro e w1 ⟨rfl, rfl⟩)
              | (go_at_call 155; (with_reducible refine H3.out.mono ?_); rintro e w1 ⟨rfl, rfl⟩))
            go_ret
            exact ⟨by rw [HE.out]; rfl, rfl⟩
          | false =>
            have H3 := Lib.hid (pdd_is h4 hp w hm)
            obtain ⟨b, h5⟩ : ∃ b, p.all locB = b := ⟨_, rfl⟩
            have HE := Lib.hid (show locP p = b by rw [HE0.out, local_split, h4, h5]; rfl)
            have H4 := Lib.hid (fun w => pxb_is h5 hp w)
            clear h0 h2 h3 h4 h5 hm
            go_enter Tryz.func153, Tryz.ntmps153
            go_wp2_with (first
              | (go_at_call 164; (with_reducible refine (H1.out _).mono ?_); rintro e w1 ⟨rfl, rfl⟩)
              | (go_at_call 175; (with_reducible refine (H2.out _).mono ?_); rintro e w1 ⟨rfl, rfl⟩)
              | (go_at_call 155; (with_reducible refine H3.out.mono ?_); rintro e w1 ⟨rfl, rfl⟩)
              | (go_at_call 176; (with_reducible refine (H4.out _).mono ?_); rintro e w1 ⟨rfl, rfl⟩))
            go_ret
            exact ⟨by rw [HE.out]; rfl, rfl⟩
    · have d1 : decide ((64 : Int) < (p.length : Int)) = true := by simp; omega
      have HE := Lib.hid (show locP p = false by unfold locP; rw [decide_eq_false h1]; simp)
      clear h0
      go_enter Tryz.func153, Tryz.ntmps153
      go_wp2_with fail
      go_ret
      exact ⟨by rw [HE.out]; rfl, rfl⟩
theorem plocal_is {p : List UInt8} {b : Bool} (h : locP p = b) (hp : p.length ≤ 150000) (w : World) (hm : Mx w) :
    Calls Tryz.prog 153 #[.string (strOf p)] w fun e w' => e = .returned (.bool b) ∧ w' = w := by
  have := plocal_any p hp w hm
  rwa [h] at this
/-- A mail address, said by its two parts. -/
theorem mail_parts (L : List UInt8) : mailB L = (decide (ctK 64 L < L.length) && decide (L.length ≤ 128) && locP (L.take (ctK 64 L)) && dnsB (L.drop (ctK 64 L + 1))) := by
  have hle := ctK_le 64 L
  show (decide (L.length ≤ 128) && decide (1 ≤ ctK 64 L) && decide (ctK 64 L ≤ 64) && decide (ctK 64 L < L.length) && dnsB (L.drop (ctK 64 L + 1)) && L.head? != some 46 && (L.take (ctK 64 L)).getLast? != some 46 && localB (L.take (ctK 64 L))) = _
  unfold locP
  generalize ctK 64 L = k at *
  have e1 : decide (L.take k ≠ []) = (decide (1 ≤ k) && decide (L ≠ [])) := by
    rw [Bool.eq_iff_iff, Bool.and_eq_true, decide_eq_true_iff, decide_eq_true_iff, decide_eq_true_iff, Ne, List.take_eq_nil_iff, not_or]
    constructor
    · rintro ⟨a, b⟩; exact ⟨by omega, b⟩
    · rintro ⟨a, b⟩; exact ⟨by omega, b⟩
  rw [e1, List.length_take, Nat.min_eq_left hle]
  by_cases hk : 1 ≤ k
  · cases L with
    | nil => simp
    | cons x r =>
      have e2 : (List.take k (x :: r)).head? = some x := by
        obtain ⟨j, rfl⟩ : ∃ j, k = j + 1 := ⟨k - 1, by omega⟩
        rfl
      rw [e2, decide_eq_true hk, show decide ((x :: r : List UInt8) ≠ []) = true from rfl, List.head?_cons]
      generalize decide ((x :: r).length ≤ 128) = b1
      generalize decide (k ≤ 64) = b2
      generalize decide (k < (x :: r).length) = b3
      generalize dnsB (List.drop (k + 1) (x :: r)) = b4
      generalize (some x != some 46) = b5
      generalize ((List.take k (x :: r)).getLast? != some 46) = b6
      generalize localB (List.take k (x :: r)) = b7
      cases b1 <;> cases b2 <;> cases b3 <;> cases b4 <;> cases b5 <;> cases b6 <;> cases b7 <;> rfl
  · rw [decide_eq_false hk]
    simp

set_option maxRecDepth 100000 in
set_option maxHeartbeats 2000000 in
theorem pmail_any (L : List UInt8) (hL : L.length ≤ 150000) (w : World) (hm : Mx w) :
    Calls Tryz.prog 130 #[.string (strOf L)] w fun e w' => e = .returned (.bool (mailB L)) ∧ Below w.heap.size w w' := by
  have es := strOf_size L
  have HM := Lib.hid hm
  have HP := Lib.hid (mail_parts L)
  have HC := Lib.hid (pcut_any L 64 (by omega) w)
  have hA : (L.take (ctK 64 L)).length ≤ 150000 := by rw [List.length_take]; omega
  have hB : (L.drop (ctK 64 L + 1)).length ≤ 150000 := by rw [List.length_drop]; omega
  generalize L.take (ctK 64 L) = A at *
  generalize L.drop (ctK 64 L + 1) = B at *
  obtain ⟨t, ht⟩ : ∃ t, decide (ctK 64 L < L.length) = t := ⟨_, rfl⟩
  rw [ht] at HC HP
  clear ht hm
  cases t with
  | false =>
    have HE := Lib.hid (show mailB L = false by rw [HP.out]; rfl)
    go_enter Tryz.func130, Tryz.ntmps130
    go_wp2_with (go_at_call 139; (with_reducible refine HC.out.mono ?_); rintro e w1 ⟨rfl, hb1⟩; have HB1 := Lib.hid hb1; clear hb1)
    go_ret
    exact ⟨by rw [HE.out]; rfl, HB1.out⟩
  | true =>
    by_cases h1 : L.length ≤ 128
    · have d1 : decide ((L.length : Int) ≤ 128) = true := by simp; omega
      cases h2 : locP A with
      | false =>
        have HE := Lib.hid (show mailB L = false by rw [HP.out, h2, Bool.and_false, Bool.false_and])
        have HL1 := Lib.hid (fun w hm => plocal_is h2 hA w hm)
        clear h2
        go_enter Tryz.func130, Tryz.ntmps130
        go_wp2_with (first
          | (go_at_call 139; (with_reducible refine HC.out.mono ?_); rintro e w1 ⟨rfl, hb1⟩; have HB1 := Lib.hid hb1; clear hb1)
          | (go_at_call 153; (with_reducible refine (HL1.out _ (HM.out.below HB1.out)).mono ?_); rintro e w2 ⟨rfl, rfl⟩))
        go_ret
        exact ⟨by rw [HE.out]; rfl, HB1.out⟩
      | true =>
        have HL1 := Lib.hid (fun w hm => plocal_is h2 hA w hm)
        have HE := Lib.hid (show mailB L = dnsB B by rw [HP.out, h2, decide_eq_true h1]; rfl)
        have HD := Lib.hid (fun w => pdns_any B hB w)
        generalize dnsB B = d at HD HE
        clear h2
        go_enter Tryz.func130, Tryz.ntmps130
        go_wp2_with (first
          | (go_at_call 139; (with_reducible refine HC.out.mono ?_); rintro e w1 ⟨rfl, hb1⟩; have HB1 := Lib.hid hb1; clear hb1)
          | (go_at_call 153; (with_reducible refine (HL1.out _ (HM.out.below HB1.out)).mono ?_); rintro e w2 ⟨rfl, rfl⟩)
          | (go_at_call 150; (with_reducible refine (HD.out _).mono ?_); rintro e w3 ⟨rfl, hb3⟩; have HB3 := Lib.hid (below_next HB1.out hb3); clear hb3))
        go_ret
        exact ⟨by rw [HE.out]; rfl, HB3.out⟩
    · have d1 : decide ((L.length : Int) ≤ 128) = false := by simp; omega
      have HE := Lib.hid (show mailB L = false by rw [HP.out, decide_eq_false h1]; rfl)
      go_enter Tryz.func130, Tryz.ntmps130
      go_wp2_with (go_at_call 139; (with_reducible refine HC.out.mono ?_); rintro e w1 ⟨rfl, hb1⟩; have HB1 := Lib.hid hb1; clear hb1)
      go_ret
      exact ⟨by rw [HE.out]; rfl, HB1.out⟩
theorem pmail_is {L : List UInt8} {b : Bool} (h : mailB L = b) (hL : L.length ≤ 150000) (w : World) (hm : Mx w) :
    Calls Tryz.prog 130 #[.string (strOf L)] w fun e w' => e = .returned (.bool b) ∧ Below w.heap.size w w' := by
  have := pmail_any L hL w hm
  rwa [h] at this
theorem dns_dot (r : List UInt8) : dnsB (46 :: r) = false := by
  unfold dnsB
  rw [show pcsL 46 (46 :: r) = [] :: pcsL 46 r from pcs_more (i := 0) (by simp [Lib.indexByte]), List.all_cons, lbl_nil]
  simp
theorem base_dot (r : List UInt8) : mailBaseB (46 :: r) = (mailB (46 :: r) || (decide (r.length + 1 ≤ 128) && dnsB r)) := by
  unfold mailBaseB
  rw [dns_dot, Bool.or_false]
  show (_ || (decide (r.length + 1 ≤ 128) && decide (1 < r.length + 1) && true && dnsB r)) = _
  cases r with
  | nil => rw [dns_nil]; simp
  | cons x q => rw [show decide (1 < (x :: q).length + 1) = true by simp]; simp
theorem base_plain {L : List UInt8} (h : L.head? ≠ some 46) : mailBaseB L = (mailB L || (decide (L.length ≤ 128) && dnsB L)) := by
  unfold mailBaseB
  rw [show (L.head? == some 46) = false from beq_eq_false_iff_ne.2 h]
  by_cases k : L.length ≤ 128
  · rw [decide_eq_true k]; simp
  · rw [dnsB_long (by omega)]; simp

/-- What TrimPrefix leaves of a text. -/
def undot (L : List UInt8) : List UInt8 := if L.head? = some 46 then L.drop 1 else L
theorem undot_le (L : List UInt8) : (undot L).length ≤ L.length := by
  unfold undot
  split
  · rw [List.length_drop]; omega
  · exact Nat.le_refl _
theorem pundot_any (L : List UInt8) (w : World) : Calls Tryz.prog 151 #[.string (strOf L), .string ⟨#[46]⟩] w fun e w' => e = .returned (.string (strOf (undot L))) ∧ w' = w := by
  by_cases h : L.head? = some 46
  · cases L with
    | nil => cases h
    | cons x r =>
      obtain rfl : x = 46 := Option.some.inj h
      exact pdot_yes r w
  · rw [show undot L = L by unfold undot; rw [if_neg h]]
    exact pdot_no h w
theorem base_parts (L : List UInt8) : mailBaseB L = (mailB L || (decide (L.length ≤ 128) && dnsB (undot L))) := by
  by_cases h : L.head? = some 46
  · cases L with
    | nil => cases h
    | cons x r =>
      obtain rfl : x = 46 := Option.some.inj h
      exact base_dot r
  · rw [show undot L = L by unfold undot; rw [if_neg h]]
    exact base_plain h
set_option maxRecDepth 100000 in
set_option maxHeartbeats 2000000 in
theorem pmb_any (L : List UInt8) (hL : L.length ≤ 150000) (w : World) (hm : Mx w) :
    Calls Tryz.prog 127 #[.string (strOf L)] w fun e w' => e = .returned (.bool (mailBaseB L)) ∧ Below w.heap.size w w' := by
  have es := strOf_size L
  have HP := Lib.hid (base_parts L)
  have HT := Lib.hid (fun w => pundot_any L w)
  have hU : (undot L).length ≤ 150000 := Nat.le_trans (undot_le L) hL
  have HD := Lib.hid (fun w => pdns_any (undot L) hU w)
  generalize dnsB (undot L) = d at HP HD
  generalize undot L = U at HT HD
  cases h1 : mailB L with
  | true =>
    have HE := Lib.hid (show mailBaseB L = true by rw [HP.out, h1]; rfl)
    have HMM := Lib.hid (pmail_is h1 hL w hm)
    clear h1 hm
    go_enter Tryz.func127, Tryz.ntmps127
    go_wp2_with (go_at_call 130; (with_reducible refine HMM.out.mono ?_); rintro e w1 ⟨rfl, hb1⟩; have HB1 := Lib.hid hb1; clear hb1)
    go_ret
    exact ⟨by rw [HE.out]; rfl, HB1.out⟩
  | false =>
    have HMM := Lib.hid (pmail_is h1 hL w hm)
    by_cases h2 : L.length ≤ 128
    · have d1 : decide ((L.length : Int) ≤ 128) = true := by simp; omega
      have HE := Lib.hid (show mailBaseB L = d by rw [HP.out, h1, decide_eq_true h2]; rfl)
      clear h1 hm
      go_enter Tryz.func127, Tryz.ntmps127
      go_wp2_with (first
        | (go_at_call 130; (with_reducible refine HMM.out.mono ?_); rintro e w1 ⟨rfl, hb1⟩; have HB1 := Lib.hid hb1; clear hb1)
        | (go_at_call 151; (with_reducible refine (HT.out _).mono ?_); rintro e w2 ⟨rfl, rfl⟩)
        | (go_at_call 150; (with_reducible refine (HD.out _).mono ?_); rintro e w3 ⟨rfl, hb3⟩; have HB3 := Lib.hid (below_next HB1.out hb3); clear hb3))
      go_ret
      exact ⟨by rw [HE.out]; rfl, HB3.out⟩
    · have d1 : decide ((L.length : Int) ≤ 128) = false := by simp; omega
      have HE := Lib.hid (show mailBaseB L = false by rw [HP.out, h1, decide_eq_false h2]; rfl)
      clear h1 hm
      go_enter Tryz.func127, Tryz.ntmps127
      go_wp2_with (go_at_call 130; (with_reducible refine HMM.out.mono ?_); rintro e w1 ⟨rfl, hb1⟩; have HB1 := Lib.hid hb1; clear hb1)
      go_ret
      exact ⟨by rw [HE.out]; rfl, HB1.out⟩
theorem pmb_is {L : List UInt8} {b : Bool} (h : mailBaseB L = b) (hL : L.length ≤ 150000) (w : World) (hm : Mx w) :
    Calls Tryz.prog 127 #[.string (strOf L)] w fun e w' => e = .returned (.bool b) ∧ Below w.heap.size w w' := by
  have := pmb_any L hL w hm
  rwa [h] at this
end Go.Proofs.YtbpdenfiifcfcaaGreatDoor
namespace Go.Proofs.YtbpdenfiifcfcaaGreatDoor
open Go.RowKit

theorem mail_dom {L : List UInt8} (h : mailB L = true) : dnsB (domP L) = true := by
  rw [mail_parts] at h
  simp only [Bool.and_eq_true] at h
  exact h.2
theorem undot_asc {L : List UInt8} (h : dnsB (undot L) = true) : Asc L := by
  unfold undot at h
  by_cases k : L.head? = some 46
  · cases L with
    | nil => cases k
    | cons x r =>
      obtain rfl : x = 46 := Option.some.inj k
      rw [if_pos k] at h
      exact (dns_asc h).cons (by decide)
  · rw [if_neg k] at h
    exact dns_asc h
theorem base_asc2 {L : List UInt8} (h : mailBaseB L = true) (h2 : mailB L = false) : Asc L := by
  rw [base_parts, h2, Bool.false_or, Bool.and_eq_true] at h
  exact undot_asc h.2
theorem mm_no1 {a b : List UInt8} (h : mailB a = false) : mailMatchB a b = false := by unfold mailMatchB; rw [h]; rfl
theorem mm_no2 {a b : List UInt8} (h : mailB b = false) : mailMatchB a b = false := by unfold mailMatchB; rw [h]; simp
theorem mm_yes {a b : List UInt8} (h1 : mailB a = true) (h2 : mailB b = true) : mailMatchB a b = (decide (localP a = localP b) && alikeB (domP a) (domP b)) := by unfold mailMatchB; rw [h1, h2]; rfl
theorem pparts_any (L : List UInt8) (hL : L.length ≤ 150000) (w : World) :
    Calls Tryz.prog 139 #[.string (strOf L), .string ⟨#[64]⟩] w fun e w' =>
      e = .returned (.tuple #[.string (strOf (localP L)), .string (strOf (domP L)), .bool (decide (ctK 64 L < L.length))]) ∧ Below w.heap.size w w' := pcut_any L 64 (by omega) w
theorem domP_le (L : List UInt8) : (domP L).length ≤ L.length := by
  show (L.drop (atK L + 1)).length ≤ _
  rw [List.length_drop]
  omega

set_option maxRecDepth 100000 in
set_option maxHeartbeats 2000000 in
theorem pmm_any (a b : List UInt8) (ha : a.length ≤ 150000) (hb : b.length ≤ 150000) (w : World) (hm : Mx w) :
    Calls Tryz.prog 138 #[.string (strOf a), .string (strOf b)] w fun e w' => e = .returned (.bool (mailMatchB a b)) ∧ Below w.heap.size w w' := by
  have HM := Lib.hid hm
  clear hm
  cases h1 : mailB a with
  | false =>
    have HE := Lib.hid (mm_no1 (b := b) h1)
    have H1 := Lib.hid (fun w hm => pmail_is h1 ha w hm)
    clear h1
    go_enter Tryz.func138, Tryz.ntmps138
    go_wp2_with (go_at_call 130; (with_reducible refine (H1.out _ HM.out).mono ?_); rintro e w1 ⟨rfl, hb1⟩; have HB1 := Lib.hid hb1; clear hb1)
    go_ret
    exact ⟨by rw [HE.out]; rfl, HB1.out⟩
  | true =>
    have H1 := Lib.hid (fun w hm => pmail_is h1 ha w hm)
    cases h2 : mailB b with
    | false =>
      have HE := Lib.hid (mm_no2 (a := a) h2)
      have H2 := Lib.hid (fun w hm => pmail_is h2 hb w hm)
      obtain ⟨A, hA⟩ : ∃ A, strOf a = A := ⟨_, rfl⟩
      obtain ⟨B, hB⟩ : ∃ B, strOf b = B := ⟨_, rfl⟩
      rw [hA] at H1 ⊢
      rw [hB] at H2 ⊢
      clear h1 h2 hA hB
      go_enter Tryz.func138, Tryz.ntmps138
      go_wp2_with (first
        | (go_at_call 130; (with_reducible refine (H1.out _ HM.out).mono ?_); rintro e w1 ⟨rfl, hb1⟩; have HB1 := Lib.hid hb1; clear hb1; clear H1)
        | (go_at_call 130; (with_reducible refine (H2.out _ (HM.out.below HB1.out)).mono ?_); rintro e w2 ⟨rfl, hb2⟩; have HB2 := Lib.hid (below_next HB1.out hb2); clear hb2; clear H2))
      go_ret
      exact ⟨by rw [HE.out]; rfl, HB2.out⟩
    | true =>
      have H2 := Lib.hid (fun w hm => pmail_is h2 hb w hm)
      have HE0 := Lib.hid (mm_yes h1 h2)
      have H3 := Lib.hid (fun w => pparts_any a ha w)
      have H4 := Lib.hid (fun w => pparts_any b hb w)
      have HQ := Lib.hid (fun w => peq_any (domP a) (domP b) (Nat.le_trans (domP_le a) ha) (dns_asc (mail_dom h1)) (dns_asc (mail_dom h2)) w)
      generalize alikeB (domP a) (domP b) = q at HQ HE0
      generalize domP a = da at H3 HQ
      generalize domP b = db at H4 HQ
      generalize decide (ctK 64 a < a.length) = ta at H3
      generalize decide (ctK 64 b < b.length) = tb at H4
      obtain ⟨A, hA⟩ : ∃ A, strOf a = A := ⟨_, rfl⟩
      obtain ⟨B, hB⟩ : ∃ B, strOf b = B := ⟨_, rfl⟩
      rw [hA] at H1 H3 ⊢
      rw [hB] at H2 H4 ⊢
      clear h1 h2 hA hB
      by_cases h3 : localP a = localP b
      · have HE := Lib.hid (show mailMatchB a b = q by rw [HE0.out, decide_eq_true h3]; rfl)
        obtain ⟨f1, f2⟩ := same_is h3
        generalize localP a = la at *
        generalize localP b = lb at *
        clear h3
        go_enter Tryz.func138, Tryz.ntmps138
        go_wp2_with (first
          | (go_at_call 130; (with_reducible refine (H1.out _ HM.out).mono ?_); rintro e w1 ⟨rfl, hb1⟩; have HB1 := Lib.hid hb1; clear hb1; clear H1)
          | (go_at_call 130; (with_reducible refine (H2.out _ (HM.out.below HB1.out)).mono ?_); rintro e w2 ⟨rfl, hb2⟩; have HB2 := Lib.hid (below_next HB1.out hb2); clear hb2; clear H2)
          | (go_at_call 139; (with_reducible refine (H3.out _).mono ?_); rintro e w3 ⟨rfl, hb3⟩; have HB3 := Lib.hid (below_next HB2.out hb3); clear hb3; clear H3)
          | (go_at_call 139; (with_reducible refine (H4.out _).mono ?_); rintro e w4 ⟨rfl, hb4⟩; have HB4 := Lib.hid (below_next HB3.out hb4); clear hb4; clear H4)
          | (go_at_call 141; (with_reducible refine (HQ.out _).mono ?_); rintro e w9 ⟨rfl, rfl⟩))
        go_ret
        exact ⟨by rw [HE.out]; rfl, HB4.out⟩
      · have HE := Lib.hid (show mailMatchB a b = false by rw [HE0.out, decide_eq_false h3]; rfl)
        obtain ⟨f1, f2⟩ := same_not h3
        generalize localP a = la at *
        generalize localP b = lb at *
        clear h3
        go_enter Tryz.func138, Tryz.ntmps138
        go_wp2_with (first
          | (go_at_call 130; (with_reducible refine (H1.out _ HM.out).mono ?_); rintro e w1 ⟨rfl, hb1⟩; have HB1 := Lib.hid hb1; clear hb1; clear H1)
          | (go_at_call 130; (with_reducible refine (H2.out _ (HM.out.below HB1.out)).mono ?_); rintro e w2 ⟨rfl, hb2⟩; have HB2 := Lib.hid (below_next HB1.out hb2); clear hb2; clear H2)
          | (go_at_call 139; (with_reducible refine (H3.out _).mono ?_); rintro e w3 ⟨rfl, hb3⟩; have HB3 := Lib.hid (below_next HB2.out hb3); clear hb3; clear H3)
          | (go_at_call 139; (with_reducible refine (H4.out _).mono ?_); rintro e w4 ⟨rfl, hb4⟩; have HB4 := Lib.hid (below_next HB3.out hb4); clear hb4; clear H4))
        go_ret
        exact ⟨by rw [HE.out]; rfl, HB4.out⟩
set_option maxRecDepth 100000 in
set_option maxHeartbeats 2000000 in
theorem prel_any (d b : List UInt8) (hd : d.length ≤ 150000) (hb : b.length ≤ 150000) (ad : Asc d) (ab : Asc b) (w : World) :
    Calls Tryz.prog 140 #[.string (strOf d), .string (strOf b)] w fun e w' => e = .returned (.bool (relB d b)) ∧ w' = w := by
  cases h1 : alikeB d b with
  | true =>
    have HE := Lib.hid (show relB d b = true by unfold relB; rw [h1]; rfl)
    have HQ := Lib.hid (fun w => peq_is h1 hd ad ab w)
    clear h1 ad ab
    go_enter Tryz.func140, Tryz.ntmps140
    go_wp2_with (go_at_call 141; (with_reducible refine (HQ.out _).mono ?_); rintro e w9 ⟨rfl, rfl⟩)
    go_ret
    exact ⟨by rw [HE.out]; rfl, rfl⟩
  | false =>
    have HQ := Lib.hid (fun w => peq_is h1 hd ad ab w)
    cases h2 : (b.head? == some 46) with
    | false =>
      have HE := Lib.hid (show relB d b = false by unfold relB; rw [h1, h2]; rfl)
      have HP := Lib.hid (fun w => ppre_is h2 w)
      clear h1 h2 ad ab
      go_enter Tryz.func140, Tryz.ntmps140
      go_wp2_with (first
        | (go_at_call 141; (with_reducible refine (HQ.out _).mono ?_); rintro e w9 ⟨rfl, rfl⟩)
        | (go_at_call 164; (with_reducible refine (HP.out _).mono ?_); rintro e w9 ⟨rfl, rfl⟩))
      go_ret
      exact ⟨by rw [HE.out]; rfl, rfl⟩
    | true =>
      have HE := Lib.hid (show relB d b = endsB d b by unfold relB; rw [h1, h2]; rfl)
      have HP := Lib.hid (fun w => ppre_is h2 w)
      have HN := Lib.hid (fun w => pends_any d b hd (by omega) ad ab w)
      generalize endsB d b = t at HN HE
      clear h1 h2 ad ab
      go_enter Tryz.func140, Tryz.ntmps140
      go_wp2_with (first
        | (go_at_call 141; (with_reducible refine (HQ.out _).mono ?_); rintro e w9 ⟨rfl, rfl⟩)
        | (go_at_call 164; (with_reducible refine (HP.out _).mono ?_); rintro e w9 ⟨rfl, rfl⟩)
        | (go_at_call 142; (with_reducible refine (HN.out _).mono ?_); rintro e w9 ⟨rfl, rfl⟩))
      go_ret
      exact ⟨by rw [HE.out]; rfl, rfl⟩
theorem mail_base {L : List UInt8} (h : mailB L = true) : mailBaseB L = true := by rw [base_parts, h]; rfl
theorem mwp_def (s b : List UInt8) : mailWithinB s b = (mailBaseB b && (if mailB s = true then (if mailB b = true then mailMatchB s b else relB (domP s) b) else mailBaseB s && !mailB b && relB s b)) := rfl
set_option maxRecDepth 100000 in
set_option maxHeartbeats 4000000 in
theorem pmw_any (a b : List UInt8) (ha : a.length ≤ 150000) (hb : b.length ≤ 150000) (w : World) (hm : Mx w) :
    Calls Tryz.prog 118 #[.string (strOf a), .string (strOf b)] w fun e w' => e = .returned (.bool (mailWithinB a b)) ∧ Below w.heap.size w w' := by
  have HM := Lib.hid hm
  clear hm
  cases h1 : mailBaseB a with
  | false =>
    have h1m : mailB a = false := by
      cases h : mailB a with
      | false => rfl
      | true => rw [mail_base h] at h1; cases h1
    have HE := Lib.hid (show mailWithinB a b = false by rw [mwp_def, h1m, if_neg (by simp), h1]; simp)
    have H1 := Lib.hid (fun w hm => pmb_is h1 ha w hm)
    clear h1 h1m
    go_enter Tryz.func118, Tryz.ntmps118
    go_wp2_with (go_at_call 127; (with_reducible refine (H1.out _ HM.out).mono ?_); rintro e w1 ⟨rfl, hb1⟩; have HB1 := Lib.hid hb1; clear hb1)
    go_ret
    exact ⟨by rw [HE.out]; rfl, HB1.out⟩
  | true =>
    have H1 := Lib.hid (fun w hm => pmb_is h1 ha w hm)
    cases h2 : mailBaseB b with
    | false =>
      have HE := Lib.hid (show mailWithinB a b = false by rw [mwp_def, h2]; rfl)
      have H2 := Lib.hid (fun w hm => pmb_is h2 hb w hm)
      obtain ⟨A, hA⟩ : ∃ A, strOf a = A := ⟨_, rfl⟩
      obtain ⟨B, hB⟩ : ∃ B, strOf b = B := ⟨_, rfl⟩
      rw [hA] at H1 ⊢
      rw [hB] at H2 ⊢
      clear h1 h2 hA hB
      go_enter Tryz.func118, Tryz.ntmps118
      go_wp2_with (first
        | (go_at_call 127; (with_reducible refine (H1.out _ HM.out).mono ?_); rintro e w1 ⟨rfl, hb1⟩; have HB1 := Lib.hid hb1; clear hb1; clear H1)
        | (go_at_call 127; (with_reducible refine (H2.out _ (HM.out.below HB1.out)).mono ?_); rintro e w2 ⟨rfl, hb2⟩; have HB2 := Lib.hid (below_next HB1.out hb2); clear hb2; clear H2))
      go_ret
      exact ⟨by rw [HE.out]; rfl, HB2.out⟩
    | true =>
      have H2 := Lib.hid (fun w hm => pmb_is h2 hb w hm)
      cases h3 : mailB b with
      | true =>
        have HE := Lib.hid (show mailWithinB a b = mailMatchB a b by
          rw [mwp_def, h2, h3, Bool.true_and, if_pos rfl]
          cases h : mailB a with
          | true => rfl
          | false => rw [mm_no1 h]; simp)
        have H3 := Lib.hid (fun w hm => pmail_is h3 hb w hm)
        have H4 := Lib.hid (fun w hm => pmm_any a b ha hb w hm)
        generalize mailMatchB a b = q at HE H4
        obtain ⟨A, hA⟩ : ∃ A, strOf a = A := ⟨_, rfl⟩
        obtain ⟨B, hB⟩ : ∃ B, strOf b = B := ⟨_, rfl⟩
        rw [hA] at H1 H4 ⊢
        rw [hB] at H2 H3 H4 ⊢
        clear h1 h2 h3 hA hB
        go_enter Tryz.func118, Tryz.ntmps118
        go_wp2_with (first
          | (go_at_call 127; (with_reducible refine (H1.out _ HM.out).mono ?_); rintro e w1 ⟨rfl, hb1⟩; have HB1 := Lib.hid hb1; clear hb1; clear H1)
          | (go_at_call 127; (with_reducible refine (H2.out _ (HM.out.below HB1.out)).mono ?_); rintro e w2 ⟨rfl, hb2⟩; have HB2 := Lib.hid (below_next HB1.out hb2); clear hb2; clear H2)
          | (go_at_call 130; (with_reducible refine (H3.out _ (HM.out.below HB2.out)).mono ?_); rintro e w3 ⟨rfl, hb3⟩; have HB3 := Lib.hid (below_next HB2.out hb3); clear hb3; clear H3)
          | (go_at_call 138; (with_reducible refine (H4.out _ (HM.out.below HB3.out)).mono ?_); rintro e w4 ⟨rfl, hb4⟩; have HB4 := Lib.hid (below_next HB3.out hb4); clear hb4))
        go_ret
        exact ⟨by rw [HE.out]; rfl, HB4.out⟩
      | false =>
        have H3 := Lib.hid (fun w hm => pmail_is h3 hb w hm)
        have ab : Asc b := base_asc2 h2 h3
        cases h4 : mailB a with
        | true =>
          have HE := Lib.hid (show mailWithinB a b = relB (domP a) b by rw [mwp_def, h2, h3, h4]; rfl)
          have H4 := Lib.hid (fun w hm => pmail_is h4 ha w hm)
          have H5 := Lib.hid (fun w => pparts_any a ha w)
          have HR := Lib.hid (fun w => prel_any (domP a) b (Nat.le_trans (domP_le a) ha) hb (dns_asc (mail_dom h4)) ab w)
          generalize relB (domP a) b = q at HE HR
          generalize domP a = D at HR H5
          generalize localP a = L at H5
          generalize decide (ctK 64 a < a.length) = t at H5
          obtain ⟨A, hA⟩ : ∃ A, strOf a = A := ⟨_, rfl⟩
          obtain ⟨B, hB⟩ : ∃ B, strOf b = B := ⟨_, rfl⟩
          rw [hA] at H1 H4 H5 ⊢
          rw [hB] at H2 H3 HR ⊢
          clear h1 h2 h3 h4 ab hA hB
          go_enter Tryz.func118, Tryz.ntmps118
          go_wp2_with (first
            | (go_at_call 127; (with_reducible refine (H1.out _ HM.out).mono ?_); rintro e w1 ⟨rfl, hb1⟩; have HB1 := Lib.hid hb1; clear hb1; clear H1)
            | (go_at_call 127; (with_reducible refine (H2.out _ (HM.out.below HB1.out)).mono ?_); rintro e w2 ⟨rfl, hb2⟩; have HB2 := Lib.hid (below_next HB1.out hb2); clear hb2; clear H2)
            | (go_at_call 130; (with_reducible refine (H3.out _ (HM.out.below HB2.out)).mono ?_); rintro e w3 ⟨rfl, hb3⟩; have HB3 := Lib.hid (below_next HB2.out hb3); clear hb3; clear H3)
            | (go_at_call 130; (with_reducible refine (H4.out _ (HM.out.below HB3.out)).mono ?_); rintro e w4 ⟨rfl, hb4⟩; have HB4 := Lib.hid (below_next HB3.out hb4); clear hb4; clear H4)
            | (go_at_call 139; (with_reducible refine (H5.out _).mono ?_); rintro e w5 ⟨rfl, hb5⟩; have HB5 := Lib.hid (below_next HB4.out hb5); clear hb5)
            | (go_at_call 140; (with_reducible refine (HR.out _).mono ?_); rintro e w9 ⟨rfl, rfl⟩))
          go_ret
          exact ⟨by rw [HE.out]; rfl, HB5.out⟩
        | false =>
          have HE := Lib.hid (show mailWithinB a b = relB a b by rw [mwp_def, h1, h2, h3, h4]; rfl)
          have H4 := Lib.hid (fun w hm => pmail_is h4 ha w hm)
          have HR := Lib.hid (fun w => prel_any a b ha hb (base_asc2 h1 h4) ab w)
          generalize relB a b = q at HE HR
          obtain ⟨A, hA⟩ : ∃ A, strOf a = A := ⟨_, rfl⟩
          obtain ⟨B, hB⟩ : ∃ B, strOf b = B := ⟨_, rfl⟩
          rw [hA] at H1 H4 HR ⊢
          rw [hB] at H2 H3 HR ⊢
          clear h1 h2 h3 h4 ab hA hB
          go_enter Tryz.func118, Tryz.ntmps118
          go_wp2_with (first
            | (go_at_call 127; (with_reducible refine (H1.out _ HM.out).mono ?_); rintro e w1 ⟨rfl, hb1⟩; have HB1 := Lib.hid hb1; clear hb1; clear H1)
            | (go_at_call 127; (with_reducible refine (H2.out _ (HM.out.below HB1.out)).mono ?_); rintro e w2 ⟨rfl, hb2⟩; have HB2 := Lib.hid (below_next HB1.out hb2); clear hb2; clear H2)
            | (go_at_call 130; (with_reducible refine (H3.out _ (HM.out.below HB2.out)).mono ?_); rintro e w3 ⟨rfl, hb3⟩; have HB3 := Lib.hid (below_next HB2.out hb3); clear hb3; clear H3)
            | (go_at_call 130; (with_reducible refine (H4.out _ (HM.out.below HB3.out)).mono ?_); rintro e w4 ⟨rfl, hb4⟩; have HB4 := Lib.hid (below_next HB3.out hb4); clear hb4; clear H4)
            | (go_at_call 140; (with_reducible refine (HR.out _).mono ?_); rintro e w9 ⟨rfl, rfl⟩))
          go_ret
          exact ⟨by rw [HE.out]; rfl, HB4.out⟩
end Go.Proofs.YtbpdenfiifcfcaaGreatDoor
