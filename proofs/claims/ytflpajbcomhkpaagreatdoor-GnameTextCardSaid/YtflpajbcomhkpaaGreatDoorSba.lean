/-
  The contracts of Mail, MailBase, MailMatch and MailWithin of the program. They ask that the library's variable MaxLen holds some number.
  The contracts of MailMatch, domainWithin and MailWithin of the program. They ask that the library's variable MaxLen holds some number.
  The contracts of halves, isMask and masked of the program.
-/
import Derived.Test.YtflpajbcomhkpaaGreatDoorSaz
import Derived.Test.YtflpajbcomhkpaaGreatDoorSap
namespace Go.Proofs.YtflpajbcomhkpaaGreatDoor
open Go.RowKit

/-! ### The local part -/
theorem contains_cons (c : UInt8) (r : List UInt8) : Lib.contains (c :: r) [46, 46] = ((c == 46 && r.head? == some 46) || Lib.contains r [46, 46]) := by
  have hp : List.isPrefixOf [46, 46] (c :: r) = (c == 46 && r.head? == some 46) := by
    rw [Bool.eq_iff_iff, List.isPrefixOf_iff_prefix, Bool.and_eq_true, beq_iff_eq, beq_iff_eq]
    constructor
    · rintro ⟨q, hq⟩
      obtain ⟨rfl, rfl⟩ := List.cons.inj hq
      exact ⟨rfl, rfl⟩
    · rintro ⟨rfl, k⟩
      cases r with
      | nil => cases k
      | cons x q =>
        obtain rfl : x = 46 := Option.some.inj k
        exact ⟨q, rfl⟩
  unfold Lib.contains
  rw [Lib.index, hp]
  have hge := Lib.index_ge r [46, 46]
  cases (c == 46 && r.head? == some 46) with
  | true => rfl
  | false =>
    rw [if_neg (by simp), Bool.false_or]
    by_cases h : Lib.index r [46, 46] = -1
    · rw [h]; rfl
    · rw [if_neg (by rw [beq_iff_eq]; exact h), decide_eq_decide]
      omega
theorem local_split : ∀ (p : List UInt8), localB p = (!Lib.contains p [46, 46] && p.all locB)
  | [] => by decide
  | c :: r => by
    have ih := local_split r
    show ((alnum c.toNat || signsL.contains c) && !(c == 46 && r.head? == some 46) && localB r) = _
    rw [ih, contains_cons, List.all_cons, Bool.not_or]
    show (locB c && _ && _) = _
    generalize locB c = x
    generalize (!(c == 46 && r.head? == some 46)) = y
    generalize (!Lib.contains r [46, 46]) = z
    generalize r.all locB = t
    cases x <;> cases y <;> cases z <;> cases t <;> rfl
def locP (p : List UInt8) : Bool := decide (p ≠ []) && decide (p.length ≤ 64) && p.head? != some 46 && p.getLast? != some 46 && localB p
theorem pdd_any (p : List UInt8) (hp : p.length ≤ 150000) (w : World) (hm : Mx w) :
    Calls Tryz.prog 147 #[.string (strOf p), .string ⟨#[46, 46]⟩] w fun e w' => e = .returned (.bool (Lib.contains p [46, 46])) ∧ w' = w := by
  obtain ⟨m, hm⟩ := hm
  exact Any.strings_Contains lays144 (strOf p) ⟨#[46, 46]⟩ m w (by rw [strOf_size]; omega) hm
theorem pdd_is {p : List UInt8} {b : Bool} (h : Lib.contains p [46, 46] = b) (hp : p.length ≤ 150000) (w : World) (hm : Mx w) :
    Calls Tryz.prog 147 #[.string (strOf p), .string ⟨#[46, 46]⟩] w fun e w' => e = .returned (.bool b) ∧ w' = w := by
  have := pdd_any p hp w hm
  rwa [h] at this
theorem ppre_is {L : List UInt8} {b : Bool} (h : (L.head? == some 46) = b) (w : World) : Calls Tryz.prog 221 #[.string (strOf L), .string ⟨#[46]⟩] w fun e w' => e = .returned (.bool b) ∧ w' = w := by
  have := ppre_dot L w
  rwa [h] at this
theorem psuf_is {L : List UInt8} {b : Bool} (h : (L.getLast? == some 46) = b) (hL : L.length ≤ 1000000) (w : World) : Calls Tryz.prog 222 #[.string (strOf L), .string ⟨#[46]⟩] w fun e w' => e = .returned (.bool b) ∧ w' = w := by
  have := psuf_dot L hL w
  rwa [h] at this
theorem pxb_is {L : List UInt8} {b : Bool} (h : L.all locB = b) (hL : L.length ≤ 150000) (w : World) : Calls Tryz.prog 185 #[.string (strOf L), .func (.func 223) #[] #[]] w fun e w' => e = .returned (.bool b) ∧ w' = w := by
  have := pcons_xb L hL w
  rwa [h] at this

set_option maxRecDepth 100000 in
set_option maxHeartbeats 2000000 in
theorem plocal_any (p : List UInt8) (hp : p.length ≤ 150000) (w : World) (hm : Mx w) :
    Calls Tryz.prog 190 #[.string (strOf p)] w fun e w' => e = .returned (.bool (locP p)) ∧ w' = w := by
  have es := strOf_size p
  by_cases h0 : p = []
  · have HE := Lib.hid (show locP p = false by unfold locP; rw [h0]; rfl)
    obtain ⟨f1, f2⟩ := empty_is h0
    clear h0
    go_enter Tryz.func190, Tryz.ntmps190
    go_wp2_with fail
    go_ret
    exact ⟨by rw [HE.out]; rfl, rfl⟩
  · obtain ⟨f1, f2⟩ := empty_not h0
    by_cases h1 : p.length ≤ 64
    · have d1 : decide ((64 : Int) < (p.length : Int)) = false := by simp; omega
      cases h2 : (p.head? == some 46) with
      | true =>
        have HE := Lib.hid (show locP p = false by unfold locP; rw [show (p.head? != some 46) = false by unfold bne; rw [h2]; rfl]; simp)
        have H1 := Lib.hid (fun w => ppre_is h2 w)
        clear h0 h2
        go_enter Tryz.func190, Tryz.ntmps190
        go_wp2_with (go_at_call 221; (with_reducible refine (H1.out _).mono ?_); rintro e w1 ⟨rfl, rfl⟩)
        go_ret
        exact ⟨by rw [HE.out]; rfl, rfl⟩
      | false =>
        have H1 := Lib.hid (fun w => ppre_is h2 w)
        cases h3 : (p.getLast? == some 46) with
        | true =>
          have HE := Lib.hid (show locP p = false by unfold locP; rw [show (p.getLast? != some 46) = false by unfold bne; rw [h3]; rfl]; simp)
          have H2 := Lib.hid (fun w => psuf_is h3 (by omega) w)
          clear h0 h2 h3
          go_enter Tryz.func190, Tryz.ntmps190
          go_wp2_with (first
            | (go_at_call 221; (with_reducible refine (H1.out _).mono ?_); rintro e w1 ⟨rfl, rfl⟩)
            | (go_at_call 222; (with_reducible refine (H2.out _).mono ?_); rintro e w1 ⟨rfl, rfl⟩))
          go_ret
          exact ⟨by rw [HE.out]; rfl, rfl⟩
        | false =>
          have H2 := Lib.hid (fun w => psuf_is h3 (by omega) w)
          have HE0 := Lib.hid (show locP p = localB p by
            unfold locP
            rw [decide_eq_true h0, decide_eq_true h1, show (p.head? != some 46) = true by unfold bne; rw [h2]; rfl, show (p.getLast? != some 46) = true by unfold bne; rw [h3]; rfl]
            rfl)
          cases h4 : Lib.contains p [46, 46] with
          | true =>
            have HE := Lib.hid (show locP p = false by rw [HE0.out, local_split, h4]; rfl)
            have H3 := Lib.hid (pdd_is h4 hp w hm)
            clear h0 h2 h3 h4 hm
            go_enter Tryz.func190, Tryz.ntmps190
            go_wp2_with (first
              | (go_at_call 221; (with_reducible refine (H1.out _).mono ?_); rintro e w1 ⟨rfl, rfl⟩)
              | (go_at_call 222; (with_reducible refine (H2.out _).mono ?_); rintro e w1 ⟨rfl, rfl⟩)
              | (go_at_call 147; (with_reducible refine H3.out.mono ?_); rintro e w1 ⟨rfl, rfl⟩))
            go_ret
            exact ⟨by rw [HE.out]; rfl, rfl⟩
          | false =>
            have H3 := Lib.hid (pdd_is h4 hp w hm)
            obtain ⟨b, h5⟩ : ∃ b, p.all locB = b := ⟨_, rfl⟩
            have HE := Lib.hid (show locP p = b by rw [HE0.out, local_split, h4, h5]; rfl)
            have H4 := Lib.hid (fun w => pxb_is h5 hp w)
            clear h0 h2 h3 h4 h5 hm
            go_enter Tryz.func190, Tryz.ntmps190
            go_wp2_with (first
              | (go_at_call 221; (with_reducible refine (H1.out _).mono ?_); rintro e w1 ⟨rfl, rfl⟩)
              | (go_at_call 222; (with_reducible refine (H2.out _).mono ?_); rintro e w1 ⟨rfl, rfl⟩)
              | (go_at_call 147; (with_reducible refine H3.out.mono ?_); rintro e w1 ⟨rfl, rfl⟩)
              | (go_at_call 185; (with_reducible refine (H4.out _).mono ?_); rintro e w1 ⟨rfl, rfl⟩))
            go_ret
            exact ⟨by rw [HE.out]; rfl, rfl⟩
    · have d1 : decide ((64 : Int) < (p.length : Int)) = true := by simp; omega
      have HE := Lib.hid (show locP p = false by unfold locP; rw [decide_eq_false h1]; simp)
      clear h0
      go_enter Tryz.func190, Tryz.ntmps190
      go_wp2_with fail
      go_ret
      exact ⟨by rw [HE.out]; rfl, rfl⟩
theorem plocal_is {p : List UInt8} {b : Bool} (h : locP p = b) (hp : p.length ≤ 150000) (w : World) (hm : Mx w) :
    Calls Tryz.prog 190 #[.string (strOf p)] w fun e w' => e = .returned (.bool b) ∧ w' = w := by
  have := plocal_any p hp w hm
  rwa [h] at this
/-- A mail address, said by its two parts. -/
theorem mail_parts (L : List UInt8) : mailB L = (decide (ctK 64 L < L.length) && decide (L.length ≤ 128) && locP (L.take (ctK 64 L)) && dnsB (L.drop (ctK 64 L + 1))) := by
  have hle := ctK_le 64 L
  show (decide (L.length ≤ 128) && decide (1 ≤ ctK 64 L) && decide (ctK 64 L ≤ 64) && decide (ctK 64 L < L.length) && dnsB (L.drop (ctK 64 L + 1)) && L.head? != some 46 && (L.take (ctK 64 L)).getLast? != some 46 && localB (L.take (ctK 64 L))) = _
  unfold locP
  generalize ctK 64 L = k at *
  have e1 : decide (L.take k ≠ []) = (decide (1 ≤ k) && decide (L ≠ [])) := by
    rw [Bool.eq_iff_iff, Bool.and_eq_true, decide_eq_true_iff, decide_eq_true_iff, decide_eq_true_iff, Ne, List.take_eq_nil_iff, not_or]
    constructor
    · rintro ⟨a, b⟩; exact ⟨by omega, b⟩
    · rintro ⟨a, b⟩; exact ⟨by omega, b⟩
  rw [e1, List.length_take, Nat.min_eq_left hle]
  by_cases hk : 1 ≤ k
  · cases L with
    | nil => simp
    | cons x r =>
      have e2 : (List.take k (x :: r)).head? = some x := by
        obtain ⟨j, rfl⟩ : ∃ j, k = j + 1 := ⟨k - 1, by omega⟩
        rfl
      rw [e2, decide_eq_true hk, show decide ((x :: r : List UInt8) ≠ []) = true from rfl, List.head?_cons]
      generalize decide ((x :: r).length ≤ 128) = b1
      generalize decide (k ≤ 64) = b2
      generalize decide (k < (x :: r).length) = b3
      generalize dnsB (List.drop (k + 1) (x :: r)) = b4
      generalize (some x != some 46) = b5
      generalize ((List.take k (x :: r)).getLast? != some 46) = b6
      generalize localB (List.take k (x :: r)) = b7
      cases b1 <;> cases b2 <;> cases b3 <;> cases b4 <;> cases b5 <;> cases b6 <;> cases b7 <;> rfl
  · rw [decide_eq_false hk]
    simp

set_option maxRecDepth 100000 in
set_option maxHeartbeats 2000000 in
theorem pmail_any (L : List UInt8) (hL : L.length ≤ 150000) (w : World) (hm : Mx w) :
    Calls Tryz.prog 152 #[.string (strOf L)] w fun e w' => e = .returned (.bool (mailB L)) ∧ Below w.heap.size w w' := by
  have es := strOf_size L
  have HM := Lib.hid hm
  have HP := Lib.hid (mail_parts L)
  have HC := Lib.hid (pcut_any L 64 (by omega) w)
  have hA : (L.take (ctK 64 L)).length ≤ 150000 := by rw [List.length_take]; omega
  have hB : (L.drop (ctK 64 L + 1)).length ≤ 150000 := by rw [List.length_drop]; omega
  generalize L.take (ctK 64 L) = A at *
  generalize L.drop (ctK 64 L + 1) = B at *
  obtain ⟨t, ht⟩ : ∃ t, decide (ctK 64 L < L.length) = t := ⟨_, rfl⟩
  rw [ht] at HC HP
  clear ht hm
  cases t with
  | false =>
    have HE := Lib.hid (show mailB L = false by rw [HP.out]; rfl)
    go_enter Tryz.func152, Tryz.ntmps152
    go_wp2_with (go_at_call 114; (with_reducible refine HC.out.mono ?_); rintro e w1 ⟨rfl, hb1⟩; have HB1 := Lib.hid hb1; clear hb1)
    go_ret
    exact ⟨by rw [HE.out]; rfl, HB1.out⟩
  | true =>
    by_cases h1 : L.length ≤ 128
    · have d1 : decide ((L.length : Int) ≤ 128) = true := by simp; omega
      cases h2 : locP A with
      | false =>
        have HE := Lib.hid (show mailB L = false by rw [HP.out, h2, Bool.and_false, Bool.false_and])
        have HL1 := Lib.hid (fun w hm => plocal_is h2 hA w hm)
        clear h2
        go_enter Tryz.func152, Tryz.ntmps152
        go_wp2_with (first
          | (go_at_call 114; (with_reducible refine HC.out.mono ?_); rintro e w1 ⟨rfl, hb1⟩; have HB1 := Lib.hid hb1; clear hb1)
          | (go_at_call 190; (with_reducible refine (HL1.out _ (HM.out.below HB1.out)).mono ?_); rintro e w2 ⟨rfl, rfl⟩))
        go_ret
        exact ⟨by rw [HE.out]; rfl, HB1.out⟩
      | true =>
        have HL1 := Lib.hid (fun w hm => plocal_is h2 hA w hm)
        have HE := Lib.hid (show mailB L = dnsB B by rw [HP.out, h2, decide_eq_true h1]; rfl)
        have HD := Lib.hid (fun w => pdns_any B hB w)
        generalize dnsB B = d at HD HE
        clear h2
        go_enter Tryz.func152, Tryz.ntmps152
        go_wp2_with (first
          | (go_at_call 114; (with_reducible refine HC.out.mono ?_); rintro e w1 ⟨rfl, hb1⟩; have HB1 := Lib.hid hb1; clear hb1)
          | (go_at_call 190; (with_reducible refine (HL1.out _ (HM.out.below HB1.out)).mono ?_); rintro e w2 ⟨rfl, rfl⟩)
          | (go_at_call 113; (with_reducible refine (HD.out _).mono ?_); rintro e w3 ⟨rfl, hb3⟩; have HB3 := Lib.hid (below_next HB1.out hb3); clear hb3))
        go_ret
        exact ⟨by rw [HE.out]; rfl, HB3.out⟩
    · have d1 : decide ((L.length : Int) ≤ 128) = false := by simp; omega
      have HE := Lib.hid (show mailB L = false by rw [HP.out, decide_eq_false h1]; rfl)
      go_enter Tryz.func152, Tryz.ntmps152
      go_wp2_with (go_at_call 114; (with_reducible refine HC.out.mono ?_); rintro e w1 ⟨rfl, hb1⟩; have HB1 := Lib.hid hb1; clear hb1)
      go_ret
      exact ⟨by rw [HE.out]; rfl, HB1.out⟩
theorem pmail_is {L : List UInt8} {b : Bool} (h : mailB L = b) (hL : L.length ≤ 150000) (w : World) (hm : Mx w) :
    Calls Tryz.prog 152 #[.string (strOf L)] w fun e w' => e = .returned (.bool b) ∧ Below w.heap.size w w' := by
  have := pmail_any L hL w hm
  rwa [h] at this
theorem dns_dot (r : List UInt8) : dnsB (46 :: r) = false := by
  unfold dnsB
  rw [show pcsL 46 (46 :: r) = [] :: pcsL 46 r from pcs_more (i := 0) (by simp [Lib.indexByte]), List.all_cons, lbl_nil]
  simp
theorem base_dot (r : List UInt8) : mailBaseB (46 :: r) = (mailB (46 :: r) || (decide (r.length + 1 ≤ 128) && dnsB r)) := by
  unfold mailBaseB
  rw [dns_dot, Bool.or_false]
  show (_ || (decide (r.length + 1 ≤ 128) && decide (1 < r.length + 1) && true && dnsB r)) = _
  cases r with
  | nil => rw [dns_nil]; simp
  | cons x q => rw [show decide (1 < (x :: q).length + 1) = true by simp]; simp
theorem base_plain {L : List UInt8} (h : L.head? ≠ some 46) : mailBaseB L = (mailB L || (decide (L.length ≤ 128) && dnsB L)) := by
  unfold mailBaseB
  rw [show (L.head? == some 46) = false from beq_eq_false_iff_ne.2 h]
  by_cases k : L.length ≤ 128
  · rw [decide_eq_true k]; simp
  · rw [dnsB_long (by omega)]; simp

/-- What TrimPrefix leaves of a text. -/
def undot (L : List UInt8) : List UInt8 := if L.head? = some 46 then L.drop 1 else L
theorem undot_le (L : List UInt8) : (undot L).length ≤ L.length := by
  unfold undot
  split
  · rw [List.length_drop]; omega
  · exact Nat.le_refl _
theorem pundot_any (L : List UInt8) (w : World) : Calls Tryz.prog 195 #[.string (strOf L), .string ⟨#[46]⟩] w fun e w' => e = .returned (.string (strOf (undot L))) ∧ w' = w := by
  by_cases h : L.head? = some 46
  · cases L with
    | nil => cases h
    | cons x r =>
      obtain rfl : x = 46 := Option.some.inj h
      exact pdot_yes r w
  · rw [show undot L = L by unfold undot; rw [if_neg h]]
    exact pdot_no h w
theorem base_parts (L : List UInt8) : mailBaseB L = (mailB L || (decide (L.length ≤ 128) && dnsB (undot L))) := by
  by_cases h : L.head? = some 46
  · cases L with
    | nil => cases h
    | cons x r =>
      obtain rfl : x = 46 := Option.some.inj h
      exact base_dot r
  · rw [show undot L = L by unfold undot; rw [if_neg h]]
    exact base_plain h
set_option maxRecDepth 100000 in
set_option maxHeartbeats 2000000 in
theorem pmb_any (L : List UInt8) (hL : L.length ≤ 150000) (w : World) (hm : Mx w) :
    Calls Tryz.prog 160 #[.string (strOf L)] w fun e w' => e = .returned (.bool (mailBaseB L)) ∧ Below w.heap.size w w' := by
  have es := strOf_size L
  have HP := Lib.hid (base_parts L)
  have HT := Lib.hid (fun w => pundot_any L w)
  have hU : (undot L).length ≤ 150000 := Nat.le_trans (undot_le L) hL
  have HD := Lib.hid (fun w => pdns_any (undot L) hU w)
  generalize dnsB (undot L) = d at HP HD
  generalize undot L = U at HT HD
  cases h1 : mailB L with
  | true =>
    have HE := Lib.hid (show mailBaseB L = true by rw [HP.out, h1]; rfl)
    have HMM := Lib.hid (pmail_is h1 hL w hm)
    clear h1 hm
    go_enter Tryz.func160, Tryz.ntmps160
    go_wp2_with (go_at_call 152; (with_reducible refine HMM.out.mono ?_); rintro e w1 ⟨rfl, hb1⟩; have HB1 := Lib.hid hb1; clear hb1)
    go_ret
    exact ⟨by rw [HE.out]; rfl, HB1.out⟩
  | false =>
    have HMM := Lib.hid (pmail_is h1 hL w hm)
    by_cases h2 : L.length ≤ 128
    · have d1 : decide ((L.length : Int) ≤ 128) = true := by simp; omega
      have HE := Lib.hid (show mailBaseB L = d by rw [HP.out, h1, decide_eq_true h2]; rfl)
      clear h1 hm
      go_enter Tryz.func160, Tryz.ntmps160
      go_wp2_with (first
        | (go_at_call 152; (with_reducible refine HMM.out.mono ?_); rintro e w1 ⟨rfl, hb1⟩; have HB1 := Lib.hid hb1; clear hb1)
        | (go_at_call 195; (with_reducible refine (HT.out _).mono ?_); rintro e w2 ⟨rfl, rfl⟩)
        | (go_at_call 113; (with_reducible refine (HD.out _).mono ?_); rintro e w3 ⟨rfl, hb3⟩; have HB3 := Lib.hid (below_next HB1.out hb3); clear hb3))
      go_ret
      exact ⟨by rw [HE.out]; rfl, HB3.out⟩
    · have d1 : decide ((L.length : Int) ≤ 128) = false := by simp; omega
      have HE := Lib.hid (show mailBaseB L = false by rw [HP.out, h1, decide_eq_false h2]; rfl)
      clear h1 hm
      go_enter Tryz.func160, Tryz.ntmps160
      go_wp2_with (go_at_call 152; (with_reducible refine HMM.out.mono ?_); rintro e w1 ⟨rfl, hb1⟩; have HB1 := Lib.hid hb1; clear hb1)
      go_ret
      exact ⟨by rw [HE.out]; rfl, HB1.out⟩
end Go.Proofs.YtflpajbcomhkpaaGreatDoor
namespace Go.Proofs.YtflpajbcomhkpaaGreatDoor
open Go.RowKit

theorem mail_dom {L : List UInt8} (h : mailB L = true) : dnsB (domP L) = true := by
  rw [mail_parts] at h
  simp only [Bool.and_eq_true] at h
  exact h.2
theorem mm_no1 {a b : List UInt8} (h : mailB a = false) : mailMatchB a b = false := by unfold mailMatchB; rw [h]; rfl
theorem mm_no2 {a b : List UInt8} (h : mailB b = false) : mailMatchB a b = false := by unfold mailMatchB; rw [h]; simp
theorem mm_yes {a b : List UInt8} (h1 : mailB a = true) (h2 : mailB b = true) : mailMatchB a b = (decide (localP a = localP b) && alikeB (domP a) (domP b)) := by unfold mailMatchB; rw [h1, h2]; rfl
theorem pparts_any (L : List UInt8) (hL : L.length ≤ 150000) (w : World) :
    Calls Tryz.prog 114 #[.string (strOf L), .string ⟨#[64]⟩] w fun e w' =>
      e = .returned (.tuple #[.string (strOf (localP L)), .string (strOf (domP L)), .bool (decide (ctK 64 L < L.length))]) ∧ Below w.heap.size w w' := pcut_any L 64 (by omega) w
theorem domP_le (L : List UInt8) : (domP L).length ≤ L.length := by
  show (L.drop (atK L + 1)).length ≤ _
  rw [List.length_drop]
  omega

set_option maxRecDepth 100000 in
set_option maxHeartbeats 2000000 in
theorem pmm_any (a b : List UInt8) (ha : a.length ≤ 150000) (hb : b.length ≤ 150000) (w : World) (hm : Mx w) :
    Calls Tryz.prog 153 #[.string (strOf a), .string (strOf b)] w fun e w' => e = .returned (.bool (mailMatchB a b)) ∧ Below w.heap.size w w' := by
  have HM := Lib.hid hm
  clear hm
  cases h1 : mailB a with
  | false =>
    have HE := Lib.hid (mm_no1 (b := b) h1)
    have H1 := Lib.hid (fun w hm => pmail_is h1 ha w hm)
    clear h1
    go_enter Tryz.func153, Tryz.ntmps153
    go_wp2_with (go_at_call 152; (with_reducible refine (H1.out _ HM.out).mono ?_); rintro e w1 ⟨rfl, hb1⟩; have HB1 := Lib.hid hb1; clear hb1)
    go_ret
    exact ⟨by rw [HE.out]; rfl, HB1.out⟩
  | true =>
    have H1 := Lib.hid (fun w hm => pmail_is h1 ha w hm)
    cases h2 : mailB b with
    | false =>
      have HE := Lib.hid (mm_no2 (a := a) h2)
      have H2 := Lib.hid (fun w hm => pmail_is h2 hb w hm)
      obtain ⟨A, hA⟩ : ∃ A, strOf a = A := ⟨_, rfl⟩
      obtain ⟨B, hB⟩ : ∃ B, strOf b = B := ⟨_, rfl⟩
      rw [hA] at H1 ⊢
      rw [hB] at H2 ⊢
      clear h1 h2 hA hB
      go_enter Tryz.func153, Tryz.ntmps153
      go_wp2_with (first
        | (go_at_call 152; (with_reducible refine (H1.out _ HM.out).mono ?_); rintro e w1 ⟨rfl, hb1⟩; have HB1 := Lib.hid hb1; clear hb1; clear H1)
        | (go_at_call 152; (with_reducible refine (H2.out _ (HM.out.below HB1.out)).mono ?_); rintro e w2 ⟨rfl, hb2⟩; have HB2 := Lib.hid (below_next HB1.out hb2); clear hb2; clear H2))
      go_ret
      exact ⟨by rw [HE.out]; rfl, HB2.out⟩
    | true =>
      have H2 := Lib.hid (fun w hm => pmail_is h2 hb w hm)
      have HE0 := Lib.hid (mm_yes h1 h2)
      have H3 := Lib.hid (fun w => pparts_any a ha w)
      have H4 := Lib.hid (fun w => pparts_any b hb w)
      have HQ := Lib.hid (fun w => peq_any (domP a) (domP b) (Nat.le_trans (domP_le a) ha) (dns_asc (mail_dom h1)) (dns_asc (mail_dom h2)) w)
      generalize alikeB (domP a) (domP b) = q at HQ HE0
      generalize domP a = da at H3 HQ
      generalize domP b = db at H4 HQ
      generalize decide (ctK 64 a < a.length) = ta at H3
      generalize decide (ctK 64 b < b.length) = tb at H4
      obtain ⟨A, hA⟩ : ∃ A, strOf a = A := ⟨_, rfl⟩
      obtain ⟨B, hB⟩ : ∃ B, strOf b = B := ⟨_, rfl⟩
      rw [hA] at H1 H3 ⊢
      rw [hB] at H2 H4 ⊢
      clear h1 h2 hA hB
      by_cases h3 : localP a = localP b
      · have HE := Lib.hid (show mailMatchB a b = q by rw [HE0.out, decide_eq_true h3]; rfl)
        obtain ⟨f1, f2⟩ := same_is h3
        generalize localP a = la at *
        generalize localP b = lb at *
        clear h3
        go_enter Tryz.func153, Tryz.ntmps153
        go_wp2_with (first
          | (go_at_call 152; (with_reducible refine (H1.out _ HM.out).mono ?_); rintro e w1 ⟨rfl, hb1⟩; have HB1 := Lib.hid hb1; clear hb1; clear H1)
          | (go_at_call 152; (with_reducible refine (H2.out _ (HM.out.below HB1.out)).mono ?_); rintro e w2 ⟨rfl, hb2⟩; have HB2 := Lib.hid (below_next HB1.out hb2); clear hb2; clear H2)
          | (go_at_call 114; (with_reducible refine (H3.out _).mono ?_); rintro e w3 ⟨rfl, hb3⟩; have HB3 := Lib.hid (below_next HB2.out hb3); clear hb3; clear H3)
          | (go_at_call 114; (with_reducible refine (H4.out _).mono ?_); rintro e w4 ⟨rfl, hb4⟩; have HB4 := Lib.hid (below_next HB3.out hb4); clear hb4; clear H4)
          | (go_at_call 115; (with_reducible refine (HQ.out _).mono ?_); rintro e w9 ⟨rfl, rfl⟩))
        go_ret
        exact ⟨by rw [HE.out]; rfl, HB4.out⟩
      · have HE := Lib.hid (show mailMatchB a b = false by rw [HE0.out, decide_eq_false h3]; rfl)
        obtain ⟨f1, f2⟩ := same_not h3
        generalize localP a = la at *
        generalize localP b = lb at *
        clear h3
        go_enter Tryz.func153, Tryz.ntmps153
        go_wp2_with (first
          | (go_at_call 152; (with_reducible refine (H1.out _ HM.out).mono ?_); rintro e w1 ⟨rfl, hb1⟩; have HB1 := Lib.hid hb1; clear hb1; clear H1)
          | (go_at_call 152; (with_reducible refine (H2.out _ (HM.out.below HB1.out)).mono ?_); rintro e w2 ⟨rfl, hb2⟩; have HB2 := Lib.hid (below_next HB1.out hb2); clear hb2; clear H2)
          | (go_at_call 114; (with_reducible refine (H3.out _).mono ?_); rintro e w3 ⟨rfl, hb3⟩; have HB3 := Lib.hid (below_next HB2.out hb3); clear hb3; clear H3)
          | (go_at_call 114; (with_reducible refine (H4.out _).mono ?_); rintro e w4 ⟨rfl, hb4⟩; have HB4 := Lib.hid (below_next HB3.out hb4); clear hb4; clear H4))
        go_ret
        exact ⟨by rw [HE.out]; rfl, HB4.out⟩
end Go.Proofs.YtflpajbcomhkpaaGreatDoor
namespace Go.Proofs.YtflpajbcomhkpaaGreatDoor
open Go.RowKit

theorem mixed_is : Tryz.prog.follows .mixedOrders = true := by kernel_rfl
set_option maxRecDepth 100000 in
theorem phalves_any (L : List UInt8) (h : Nat) (hh : h = 4 ∨ h = 16) (hL : L.length = 2 * h) (w : World) :
    Calls Tryz.prog 196 #[.string (strOf L)] w fun e w' => e = .returned (.tuple #[.string (strOf (L.take h)), .string (strOf (L.drop h))]) ∧ Below w.heap.size w w' := by
  have hmx := mixed_is
  have e1 : (strOf L).extract 0 h = strOf (L.take h) := strOf_of (by rw [ext_list_h, strOf_list, List.drop_zero, Nat.sub_zero])
  have e2 : (strOf L).extract h (2 * h) = strOf (L.drop h) := strOf_of (by rw [ext_list_h, strOf_list, List.take_of_length_le (by rw [List.length_drop]; omega)])
  generalize L.take h = A at *
  generalize L.drop h = B at *
  rcases hh with rfl | rfl
  · have es : (strOf L).size = 8 := hL
    have HE1 := Lib.hid (show (strOf L).extract 0 4 = strOf A from e1)
    have HE2 := Lib.hid (show (strOf L).extract 4 8 = strOf B from e2)
    clear e1 e2
    go_enter Tryz.func196, Tryz.ntmps196
    go_wp2_with fail
    go_region
    go_wp2
    go_ret2
    exact ⟨by rw [← HE1.out, ← HE2.out]; rfl, (Below.refl _ _).drew⟩
  · have es : (strOf L).size = 32 := hL
    have HE1 := Lib.hid (show (strOf L).extract 0 16 = strOf A from e1)
    have HE2 := Lib.hid (show (strOf L).extract 16 32 = strOf B from e2)
    clear e1 e2
    go_enter Tryz.func196, Tryz.ntmps196
    go_wp2_with fail
    go_region
    go_wp2
    go_ret2
    exact ⟨by rw [← HE1.out, ← HE2.out]; rfl, (Below.refl _ _).drew⟩
def mskL (S M : List UInt8) (k : Nat) : List UInt8 := (List.range S.length).map (fun i => if i < k then S.getD i 0 &&& M.getD i 0 else S.getD i 0)
def mskd (S M : List UInt8) : List UInt8 := (List.range S.length).map (fun i => S.getD i 0 &&& M.getD i 0)
theorem mskL_len (S M : List UInt8) (k : Nat) : (mskL S M k).length = S.length := by unfold mskL; rw [List.length_map, List.length_range]
theorem mskL_get (S M : List UInt8) (k : Nat) {i : Nat} (h : i < S.length) : (mskL S M k).getD i 0 = if i < k then S.getD i 0 &&& M.getD i 0 else S.getD i 0 := by
  unfold mskL
  rw [List.getD_eq_getElem?_getD, List.getElem?_map, List.getElem?_range h]
  rfl
theorem list_ext {a b : List UInt8} (h : a.length = b.length) (k : ∀ i, i < a.length → a.getD i 0 = b.getD i 0) : a = b := by
  refine List.ext_getElem h fun i h1 h2 => ?_
  have := k i h1
  rwa [List.getD_eq_getElem?_getD, List.getD_eq_getElem?_getD, List.getElem?_eq_getElem h1, List.getElem?_eq_getElem h2] at this
theorem mskL_zero (S M : List UInt8) : mskL S M 0 = S := list_ext (mskL_len _ _ _) fun i hi => by
  rw [mskL_len] at hi
  rw [mskL_get _ _ _ hi, if_neg (by omega)]
theorem mskL_end (S M : List UInt8) : mskL S M S.length = mskd S M := by
  unfold mskL mskd
  exact List.map_congr_left fun i hi => if_pos (List.mem_range.1 hi)
theorem mskL_step (S M : List UInt8) {k : Nat} (h : k < S.length) : mskL S M (k + 1) = (mskL S M k).set k (S.getD k 0 &&& M.getD k 0) := list_ext (by rw [mskL_len, List.length_set, mskL_len]) fun i hi => by
  rw [mskL_len] at hi
  rw [mskL_get _ _ _ hi]
  by_cases e : k = i
  · subst e
    rw [getD_set_same (by rw [mskL_len]; exact h), if_pos (by omega)]
  · rw [getD_set_other e, mskL_get _ _ _ hi]
    by_cases g : i < k
    · rw [if_pos (by omega), if_pos g]
    · rw [if_neg (by omega), if_neg g]
set_option maxRecDepth 100000 in
set_option maxHeartbeats 2000000 in
theorem pmasked_any (S M : List UInt8) (hS : S.length ≤ 150000) (hM : S.length ≤ M.length) (w : World) :
    Calls Tryz.prog 198 #[.string (strOf S), .string (strOf M)] w fun e w' => e = .returned (.string (strOf (mskd S M))) ∧ Below w.heap.size w w' := by
  have em := strOf_size M
  obtain ⟨cap, W, hcv, hbl, hbe⟩ := conv_made S w
  have HBL0 := Lib.hid hbl
  have HB0 := Lib.hid hbe
  clear hbl hbe
  go_enter Tryz.func198, Tryz.ntmps198
  go_wp2_with fail
  clear hcv
  go_loopw [11] (fun i wr => ∃ k : Nat, k ≤ S.length ∧ i = .int .i64 (k : Int) ∧ BL wr w.heap.size (mskL S M k) ∧ Below w.heap.size w wr) (fun i _ => S.length - (intOf i).toNat)
  case atStart => exact ⟨0, Nat.zero_le _, rfl, by rw [mskL_zero]; exact HBL0.out, HB0.out⟩
  case round =>
    obtain ⟨k, hk, rfl, hbl, hb⟩ := hrel
    have HBL := Lib.hid hbl
    have HB := Lib.hid hb
    have hcv := hbl.text S.length cap (mskL_len _ _ _).symm
    clear hbl hb
    by_cases hlt : k < S.length
    · clear hcv
      have hd : decide ((k : Int) < (S.length : Int)) = true := by simp; omega
      have hlr : k < (mskL S M k).length := by rw [mskL_len]; exact hlt
      have hcell := (HBL.out.2 k hlr).1
      have hfro := (HBL.out.2 k hlr).2
      have hgl := HBL.out.1
      rw [mskL_get _ _ _ hlt, if_neg (by omega)] at hcell
      obtain ⟨x, hx, hxn⟩ := u8at_list (strOf M) k (by rw [em]; omega)
      have hix := run_index_u8 (P := Tryz.prog) Tryz.underlying9 (strOf M) k (by rw [em]; omega) (k : Int) rfl
      rw [hxn] at hix
      rw [strOf_list] at hx
      have hsk : S[k] = S.getD k 0 := by rw [List.getD_eq_getElem?_getD, List.getElem?_eq_getElem hlt]; rfl
      have hmk : M.getD k 0 = x := by rw [List.getD_eq_getElem?_getD, hx]; rfl
      have HE := Lib.hid (show bits BinOp.and .u8 ((S[k].toNat : Nat) : Int) ((x.toNat : Nat) : Int) = (((S.getD k 0 &&& M.getD k 0).toNat : Nat) : Int) by rw [hsk, hmk]; exact and_u8 _ _)
      have HST := Lib.hid (mskL_step S M hlt)
      have hmx := mixed_is
      clear hsk hmk hx hxn
      go_wp2_with fail
      go_region
      go_wp2
      go_roundw
      case rel => exact ⟨k + 1, by omega, by go_num, by rw [HST.out]; exact (HBL.out.putv hlr _ _ HE.out).drew, (HB.out.setCell (by simp) _).drew⟩
      case measure => simp [intOf]; omega
    · have ek : k = S.length := by omega
      subst ek
      have hd : decide ((S.length : Int) < (S.length : Int)) = false := by simp
      rw [mskL_end S M] at hcv
      go_wp2_with fail
      go_ret
      exact ⟨rfl, HB.out⟩

/-! ### Masks -/
def byteOk (c : UInt8) : Bool := decide ((255 ^^^ c.toNat) &&& ((255 ^^^ c.toNat) + 1) % 256 = 0)
def maskOk : Bool → List UInt8 → Bool
  | _, [] => true
  | ones, c :: r => byteOk c && (ones || decide (c = 0)) && maskOk (decide (c = 255)) r
set_option maxRecDepth 100000 in
set_option maxHeartbeats 2000000 in
theorem pmask_any (M : List UInt8) (hM : M.length ≤ 150000) (w : World) :
    Calls Tryz.prog 197 #[.string (strOf M)] w fun e w' => e = .returned (.bool (maskOk true M)) ∧ Below w.heap.size w w' := by
  have em := strOf_size M
  go_enter Tryz.func197, Tryz.ntmps197
  go_wp2_with fail
  go_loopw [3, 8] (fun o i wr => ∃ (k : Nat) (b : Bool), k ≤ M.length ∧ i = .int .i64 (k : Int) ∧ o = .bool b ∧ maskOk true M = maskOk b (M.drop k) ∧ wr = w) (fun _ i _ => M.length - (intOf i).toNat)
  case atStart => exact ⟨0, true, Nat.zero_le _, rfl, rfl, rfl, rfl⟩
  case round =>
    obtain ⟨k, b, hk, rfl, rfl, hmo, rfl⟩ := hrel
    by_cases hlt : k < M.length
    · have hd : decide ((k : Int) < (M.length : Int)) = true := by simp; omega
      obtain ⟨c, hc, hcn⟩ := u8at_list (strOf M) k (by rw [em]; omega)
      have hix := run_index_u8 (P := Tryz.prog) Tryz.underlying9 (strOf M) k (by rw [em]; omega) (k : Int) rfl
      rw [hcn] at hix
      rw [strOf_list] at hc
      rw [drop_cons hc] at hmo
      have HMO := Lib.hid hmo
      clear hmo hc hcn
      have hsg : IntKind.u8.signed = false := rfl
      have hz : bits BinOp.xor .u8 IntKind.u8.max ((c.toNat : Nat) : Int) = ((255 ^^^ c.toNat : Nat) : Int) := u8_xor_nat 255 c.toNat (by decide) c.toNat_lt
      have hzl : 255 ^^^ c.toNat < 256 := Nat.xor_lt_two_pow (n := 8) (by decide) c.toNat_lt
      have hok : byteOk c = decide ((255 ^^^ c.toNat) &&& ((255 ^^^ c.toNat) + 1) % 256 = 0) := rfl
      have h255 : decide (c = 255) = decide (255 ^^^ c.toNat = 0) := by
        rw [decide_eq_decide, ← UInt8.toNat_inj]
        constructor
        · intro k
          rw [k]
          rfl
        · intro k
          have e : c.toNat = 255 ^^^ (255 ^^^ c.toNat) := by rw [← Nat.xor_assoc, Nat.xor_self, Nat.zero_xor]
          rw [k] at e
          exact e
      have h0 : decide (c = 0) = decide (c.toNat = 0) := by rw [decide_eq_decide, ← UInt8.toNat_inj]; rfl
      generalize 255 ^^^ c.toNat = z at *
      obtain ⟨z1, he1⟩ : ∃ z1, (z + 1) % 256 = z1 := ⟨_, rfl⟩
      have hz1 : ((z : Int) + 1) % 256 = (z1 : Int) := by omega
      have hy := u8_and_nat z z1 hzl (by omega)
      rw [he1] at hok
      generalize z &&& z1 = y at *
      clear he1
      have hlz : ((z : Int) == (0 : Int)) = decide (c = 255) := by rw [h255, Bool.eq_iff_iff, beq_iff_eq, decide_eq_true_iff]; omega
      obtain ⟨b2, hb2⟩ : ∃ b2, decide (c = 255) = b2 := ⟨_, rfl⟩
      rw [hb2] at hlz
      by_cases hyz : y = 0
      · have hok2 : byteOk c = true := by rw [hok]; exact decide_eq_true hyz
        have hn : ((y : Int) != 0) = false := by rw [hyz]; rfl
        cases b with
        | true =>
          have HN := Lib.hid (show maskOk true M = maskOk b2 (M.drop (k + 1)) by rw [HMO.out, maskOk, hok2, hb2]; rfl)
          clear hb2 h255 h0 hok hok2 hyz
          go_wp2_with fail
          go_roundw
          case rel => exact ⟨k + 1, b2, by omega, by go_num, rfl, HN.out, by first | exact trivial | rfl⟩
          case measure => simp [intOf]; omega
        | false =>
          by_cases hc0 : c = 0
          · have hc1 : (((c.toNat : Nat) : Int) != 0) = false := by rw [hc0]; rfl
            have HN := Lib.hid (show maskOk true M = maskOk b2 (M.drop (k + 1)) by rw [HMO.out, maskOk, hok2, hb2, decide_eq_true hc0]; rfl)
            clear hb2 h255 h0 hok hok2 hyz hc0
            go_wp2_with fail
            go_roundw
            case rel => exact ⟨k + 1, b2, by omega, by go_num, rfl, HN.out, by first | exact trivial | rfl⟩
            case measure => simp [intOf]; omega
          · have hc1 : (((c.toNat : Nat) : Int) != 0) = true := by
              have : ¬ c.toNat = 0 := fun k => hc0 (UInt8.toNat_inj.1 k)
              simp; omega
            have HN := Lib.hid (show maskOk true M = false by rw [HMO.out, maskOk, decide_eq_false hc0]; simp)
            clear hb2 h255 h0 hok hok2 hyz hc0
            go_wp2_with fail
            go_ret
            exact ⟨by rw [HN.out]; rfl, Below.refl _ _⟩
      · have hok2 : byteOk c = false := by rw [hok]; exact decide_eq_false hyz
        have hn : ((y : Int) != 0) = true := by simp; omega
        have HN := Lib.hid (show maskOk true M = false by rw [HMO.out, maskOk, hok2]; rfl)
        clear hb2 h255 h0 hok hok2 hyz
        go_wp2_with fail
        go_ret
        exact ⟨by rw [HN.out]; rfl, Below.refl _ _⟩
    · have HE := Lib.hid (show maskOk true M = true by rw [hmo, List.drop_eq_nil_of_le (by omega)]; rfl)
      have hd : decide ((k : Int) < (M.length : Int)) = false := by simp; omega
      clear hmo
      go_wp2_with fail
      go_ret
      exact ⟨by rw [HE.out]; rfl, Below.refl _ _⟩
end Go.Proofs.YtflpajbcomhkpaaGreatDoor
