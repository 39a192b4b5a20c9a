/-
  The contracts of strings.Cut at one byte, of strings.CutPrefix and TrimPrefix and of strings.Contains at one byte.
  The contracts of Pattern, Base, DNSMatch and DNSWithin of the program.
-/
import Derived.Test.YtoogfipmdkneoaaDoorJan
import Derived.Test.YtoogfipmdkneoaaDoorJai
namespace Go.Proofs.YtoogfipmdkneoaaDoor
open Go.RowKit

def ctK (c : UInt8) (l : List UInt8) : Nat := (l.takeWhile (fun x => x != c)).length
theorem ctK_cons (c x : UInt8) (l : List UInt8) : ctK c (x :: l) = if x = c then 0 else ctK c l + 1 := by
  unfold ctK
  by_cases h : x = c
  · rw [if_pos h, List.takeWhile_cons, if_neg (by simp [h])]
    rfl
  · rw [if_neg h, List.takeWhile_cons, if_pos (by simp [h])]
    rfl
theorem ctK_miss {c : UInt8} : ∀ {l : List UInt8}, c ∉ l → ctK c l = l.length
  | [], _ => rfl
  | x :: l, h => by
    rw [ctK_cons, if_neg (fun e => h (by simp [e])), ctK_miss (fun m => h (by simp [m]))]
    rfl
theorem ctK_at {c : UInt8} {r : List UInt8} : ∀ {p : List UInt8}, c ∉ p → ctK c (p ++ c :: r) = p.length
  | [], _ => by
    rw [List.nil_append, ctK_cons, if_pos rfl]
    rfl
  | x :: p, h => by
    rw [List.cons_append, ctK_cons, if_neg (fun e => h (by simp [e])), ctK_at (fun m => h (by simp [m]))]
    rfl
theorem ctK_hit {c : UInt8} {l : List UInt8} {i : Nat} (h : Lib.indexByte l c = i) (hi : i < l.length) : ctK c l = i := by
  obtain ⟨e1, e2⟩ := first_cut h
  conv => lhs; rw [e1]
  rw [ctK_at e2, List.length_take]
  omega
theorem ctK_le (c : UInt8) (l : List UInt8) : ctK c l ≤ l.length := by
  rcases index_cases l c with ⟨_, h⟩ | ⟨i, h, hi⟩
  · rw [ctK_miss h]; exact Nat.le_refl _
  · rw [ctK_hit h hi]; omega
theorem firstK_ct (s : List UInt8) : firstK s = ctK 46 s := by
  unfold firstK
  rcases index_cases s 46 with ⟨_, h⟩ | ⟨i, h, hi⟩
  · rw [pcs_last h, ctK_miss h]; rfl
  · rw [pcs_more h, ctK_hit h hi]
    show (s.take i).length = i
    rw [List.length_take]; omega
theorem index_byte (x : ByteArray) (c : UInt8) (w : World) :
    Calls Tryd.prog 73 #[.string x, .string ⟨#[c]⟩] w fun e w' => e = .returned (.int .i64 (Lib.indexByte x.data.toList c)) ∧ w' = w :=
  Any.stringslite_Index_one lays219 x c w
set_option maxRecDepth 100000 in
set_option maxHeartbeats 1000000 in
theorem pcut_hit (L : List UInt8) (c : UInt8) (i : Nat) (h : Lib.indexByte L c = i) (hi : i < L.length) (hL : L.length ≤ 1000000) (w : World) :
    Calls Tryd.prog 62 #[.string (strOf L), .string ⟨#[c]⟩] w fun e w' => e = .returned (.tuple #[.string (strOf (L.take i)), .string (strOf (L.drop (i + 1))), .bool true]) ∧ Below w.heap.size w w' := by
  have hx := fun w => index_byte (strOf L) c w
  rw [strOf_list, h] at hx
  have HX := Lib.hid hx
  have es := strOf_size L
  have c1 : (0 : Int) ≤ (i : Int) := by omega
  have c2 : (i : Int) ≤ (L.length : Int) := by omega
  have c3 : (i : Int) + 1 ≤ (L.length : Int) := by omega
  have d0 : decide ((0 : Int) ≤ (i : Int)) = true := by simp
  have hw1 : wrap64 ((i : Int) + 1) = (i : Int) + 1 := by unfold wrap64; omega
  have hs1 := slice_front L i (by omega)
  have hs2 := slice_back L (i + 1) (by omega) ((i : Int) + 1) (by omega)
  generalize L.take i = A at hs1
  generalize L.drop (i + 1) = B at hs2
  clear hx h
  go_enter Tryd.func62, Tryd.ntmps62
  go_wp2_with (go_at_call 73; (with_reducible refine (HX.out _).mono ?_); rintro e w1 ⟨rfl, rfl⟩)
  go_region_o
  go_wp2
  go_ret3
  exact ⟨rfl, (Below.refl _ _).drew⟩
set_option maxRecDepth 100000 in
set_option maxHeartbeats 1000000 in
theorem pcut_miss (L : List UInt8) (c : UInt8) (h : Lib.indexByte L c = -1) (w : World) :
    Calls Tryd.prog 62 #[.string (strOf L), .string ⟨#[c]⟩] w fun e w' => e = .returned (.tuple #[.string (strOf L), .string ⟨#[]⟩, .bool false]) ∧ Below w.heap.size w w' := by
  have hx := fun w => index_byte (strOf L) c w
  rw [strOf_list, h] at hx
  have HX := Lib.hid hx
  clear hx h
  go_enter Tryd.func62, Tryd.ntmps62
  go_wp2_with (go_at_call 73; (with_reducible refine (HX.out _).mono ?_); rintro e w1 ⟨rfl, rfl⟩)
  go_ret3
  exact ⟨rfl, Below.refl _ _⟩
theorem pcutl_any (L : List UInt8) (c : UInt8) (hL : L.length ≤ 1000000) (w : World) :
    Calls Tryd.prog 62 #[.string (strOf L), .string ⟨#[c]⟩] w fun e w' =>
      e = .returned (.tuple #[.string (strOf (L.take (ctK c L))), .string (strOf (L.drop (ctK c L + 1))), .bool (decide (ctK c L < L.length))]) ∧ Below w.heap.size w w' := by
  rcases index_cases L c with ⟨h, hno⟩ | ⟨i, h, hi⟩
  · rw [ctK_miss hno, List.take_length, List.drop_eq_nil_of_le (by omega), decide_eq_false (by omega)]
    exact pcut_miss L c h w
  · rw [ctK_hit h hi, decide_eq_true hi]
    exact pcut_hit L c i h hi hL w
set_option maxRecDepth 100000 in
theorem pcut_any (L : List UInt8) (c : UInt8) (hL : L.length ≤ 1000000) (w : World) :
    Calls Tryd.prog 45 #[.string (strOf L), .string ⟨#[c]⟩] w fun e w' =>
      e = .returned (.tuple #[.string (strOf (L.take (ctK c L))), .string (strOf (L.drop (ctK c L + 1))), .bool (decide (ctK c L < L.length))]) ∧ Below w.heap.size w w' := by
  have HC := Lib.hid (fun w => pcutl_any L c hL w)
  generalize L.take (ctK c L) = A at HC
  generalize L.drop (ctK c L + 1) = B at HC
  generalize decide (ctK c L < L.length) = b at HC
  go_enter Tryd.func45, Tryd.ntmps45
  go_wp2_with (go_at_call 62; (with_reducible refine (HC.out _).mono ?_); rintro e w1 ⟨rfl, hb⟩; have HB := Lib.hid hb; clear hb)
  go_ret3
  exact ⟨rfl, HB.out⟩

theorem pstar_yes (r : List UInt8) (w : World) : Calls Tryd.prog 43 #[.string (strOf (42 :: 46 :: r)), .string ⟨#[42, 46]⟩] w fun e w' => e = .returned (.tuple #[.string (strOf r), .bool true]) ∧ w' = w := by
  have h := Any.strings_CutPrefix lays103 (strOf (42 :: 46 :: r)) ⟨#[42, 46]⟩ w
  have e1 : Lib.hasPrefix (strOf (42 :: 46 :: r)).data.toList (⟨#[42, 46]⟩ : ByteArray).data.toList = true := by rw [strOf_list]; rfl
  have e2 : Lib.trimPrefix (strOf (42 :: 46 :: r)).data.toList (⟨#[42, 46]⟩ : ByteArray).data.toList = r := by unfold Lib.trimPrefix; rw [if_pos e1, strOf_list]; rfl
  rw [e1, e2] at h
  exact h
theorem pstar_no {L : List UInt8} (hn : ∀ r, L ≠ 42 :: 46 :: r) (w : World) : Calls Tryd.prog 43 #[.string (strOf L), .string ⟨#[42, 46]⟩] w fun e w' => e = .returned (.tuple #[.string (strOf L), .bool false]) ∧ w' = w := by
  have h := Any.strings_CutPrefix lays103 (strOf L) ⟨#[42, 46]⟩ w
  have e1 : Lib.hasPrefix (strOf L).data.toList (⟨#[42, 46]⟩ : ByteArray).data.toList = false := by
    rw [strOf_list, Bool.eq_false_iff]
    intro k
    obtain ⟨r, hr⟩ := List.isPrefixOf_iff_prefix.1 k
    exact hn r hr.symm
  have e2 : Lib.trimPrefix (strOf L).data.toList (⟨#[42, 46]⟩ : ByteArray).data.toList = L := by unfold Lib.trimPrefix; rw [if_neg (by rw [e1]; simp), strOf_list]
  rw [e1, e2] at h
  exact h
theorem pdot_yes (r : List UInt8) (w : World) : Calls Tryd.prog 48 #[.string (strOf (46 :: r)), .string ⟨#[46]⟩] w fun e w' => e = .returned (.string (strOf r)) ∧ w' = w := by
  have h := Any.strings_TrimPrefix lays101 (strOf (46 :: r)) ⟨#[46]⟩ w
  have e1 : Lib.hasPrefix (strOf (46 :: r)).data.toList (⟨#[46]⟩ : ByteArray).data.toList = true := by rw [strOf_list]; rfl
  have e2 : Lib.trimPrefix (strOf (46 :: r)).data.toList (⟨#[46]⟩ : ByteArray).data.toList = r := by unfold Lib.trimPrefix; rw [if_pos e1, strOf_list]; rfl
  rw [e2] at h
  exact h
theorem pdot_no {L : List UInt8} (hn : L.head? ≠ some 46) (w : World) : Calls Tryd.prog 48 #[.string (strOf L), .string ⟨#[46]⟩] w fun e w' => e = .returned (.string (strOf L)) ∧ w' = w := by
  have h := Any.strings_TrimPrefix lays101 (strOf L) ⟨#[46]⟩ w
  have e1 : Lib.hasPrefix (strOf L).data.toList (⟨#[46]⟩ : ByteArray).data.toList = false := by
    rw [strOf_list, Bool.eq_false_iff]
    intro k
    obtain ⟨r, hr⟩ := List.isPrefixOf_iff_prefix.1 k
    exact hn (by rw [← hr]; rfl)
  have e2 : Lib.trimPrefix (strOf L).data.toList (⟨#[46]⟩ : ByteArray).data.toList = L := by unfold Lib.trimPrefix; rw [if_neg (by rw [e1]; simp), strOf_list]
  rw [e2] at h
  exact h
theorem phas_dot (L : List UInt8) (w : World) : Calls Tryd.prog 44 #[.string (strOf L), .string ⟨#[46]⟩] w fun e w' => e = .returned (.bool (L.contains 46)) ∧ w' = w := by
  rw [idx_has]
  exact Any.strings_Contains_one lays144 (strOf L) 46 w
theorem ppre_dot (L : List UInt8) (w : World) : Calls Tryd.prog 63 #[.string (strOf L), .string ⟨#[46]⟩] w fun e w' => e = .returned (.bool (L.head? == some 46)) ∧ w' = w := by
  have h := Any.strings_HasPrefix lays99 (strOf L) ⟨#[46]⟩ w
  have e1 : Lib.hasPrefix (strOf L).data.toList (⟨#[46]⟩ : ByteArray).data.toList = (L.head? == some 46) := by
    rw [strOf_list]
    cases L with
    | nil => rfl
    | cons x r =>
      show (List.isPrefixOf [46] (x :: r)) = _
      rw [Bool.eq_iff_iff, List.isPrefixOf_iff_prefix, beq_iff_eq]
      constructor
      · rintro ⟨q, hq⟩
        rw [← hq]
        rfl
      · intro k
        have k2 : x = 46 := Option.some.inj k
        rw [k2]
        exact ⟨r, rfl⟩
  rw [e1] at h
  exact h
theorem psuf_dot (L : List UInt8) (hL : L.length ≤ 1000000) (w : World) : Calls Tryd.prog 64 #[.string (strOf L), .string ⟨#[46]⟩] w fun e w' => e = .returned (.bool (L.getLast? == some 46)) ∧ w' = w := by
  have h := Any.strings_HasSuffix lays100 (strOf L) ⟨#[46]⟩ w (by rw [strOf_size]; omega)
  have e1 : Lib.hasSuffix (strOf L).data.toList (⟨#[46]⟩ : ByteArray).data.toList = (L.getLast? == some 46) := by
    rw [strOf_list]
    show (List.isSuffixOf [46] L) = _
    rw [Bool.eq_iff_iff, List.isSuffixOf_iff_suffix, beq_iff_eq]
    constructor
    · rintro ⟨p, rfl⟩
      simp
    · intro k
      obtain ⟨p, rfl⟩ := List.getLast?_eq_some_iff.1 k
      exact List.suffix_append _ _
  rw [e1] at h
  exact h
end Go.Proofs.YtoogfipmdkneoaaDoor
namespace Go.Proofs.YtoogfipmdkneoaaDoor
open Go.RowKit

theorem pdns_is {L : List UInt8} {b : Bool} (h : dnsB L = b) (hL : L.length ≤ 100000) (w : World) :
    Calls Tryd.prog 13 #[.string (strOf L)] w fun e w' => e = .returned (.bool b) ∧ Below w.heap.size w w' := by
  have := pdns_any L hL w
  rwa [h] at this
theorem phas_is {L : List UInt8} {b : Bool} (h : L.contains 46 = b) (w : World) : Calls Tryd.prog 44 #[.string (strOf L), .string ⟨#[46]⟩] w fun e w' => e = .returned (.bool b) ∧ w' = w := by
  have := phas_dot L w
  rwa [h] at this
theorem idx_star (r : List UInt8) : Lib.indexByte (42 :: 46 :: r) 46 = ((1 : Nat) : Int) := by simp [Lib.indexByte]
theorem pcs_star (r : List UInt8) : pcsL 46 (42 :: 46 :: r) = [42] :: pcsL 46 r := pcs_more (idx_star r)
theorem dns_star (r : List UInt8) : dnsB (42 :: 46 :: r) = false := by
  unfold dnsB
  rw [pcs_star, List.all_cons, show lbl [42] = false by decide]
  simp
theorem pcs_many (r : List UInt8) : decide (2 < (pcsL 46 (42 :: 46 :: r)).length) = r.contains 46 := by
  rw [pcs_star, List.length_cons]
  by_cases h : (46 : UInt8) ∈ r
  · rw [List.contains_iff_mem.2 h]
    rcases index_cases r 46 with ⟨_, k⟩ | ⟨i, k, _⟩
    · exact absurd h k
    · rw [pcs_more k, List.length_cons]
      have := List.length_pos_iff.2 (pcsL_ne 46 (r.drop (i + 1)))
      simp; omega
  · rw [pcs_last h, show r.contains 46 = false by rw [Bool.eq_false_iff]; exact fun k => h (List.contains_iff_mem.1 k)]
    rfl
theorem dns_nil : dnsB [] = false := by decide +kernel
theorem pat_star (r : List UInt8) : patB (42 :: 46 :: r) = (decide (r.length + 2 ≤ 128) && dnsB r && r.contains 46) := by
  unfold patB
  rw [dns_star, Bool.false_or, pcs_many, show decide ((42 :: 46 :: r : List UInt8).take 2 = [42, 46]) = true from rfl, Bool.and_true]
  show (decide (r.length + 2 ≤ 128) && decide (2 < r.length + 2) && dnsB r && r.contains 46) = _
  cases r with
  | nil => rw [dns_nil]; simp
  | cons x q => rw [show decide (2 < (x :: q).length + 2) = true by simp, Bool.and_true]
theorem pat_plain {L : List UInt8} (h : ∀ r, L ≠ 42 :: 46 :: r) : patB L = dnsB L := by
  have e : decide (L.take 2 = [42, 46]) = false := decide_eq_false fun k => h (L.drop 2) (by
    conv => lhs; rw [← List.take_append_drop 2 L, k]
    rfl)
  unfold patB
  rw [e]
  simp
theorem pat_form (L : List UInt8) : (∃ r, L = 42 :: 46 :: r) ∨ ∀ r, L ≠ 42 :: 46 :: r := by
  by_cases h : ∃ r, L = 42 :: 46 :: r
  · exact .inl h
  · exact .inr fun r e => h ⟨r, e⟩
theorem pat_asc {L : List UInt8} (h : patB L = true) : Asc L := by
  rcases pat_form L with ⟨r, rfl⟩ | hn
  · rw [pat_star] at h
    simp only [Bool.and_eq_true] at h
    exact (Asc.cons (by decide) (Asc.cons (by decide) (dns_asc h.1.2)))
  · rw [pat_plain hn] at h
    exact dns_asc h
theorem base_asc {L : List UInt8} (h : baseB L = true) : Asc L := by
  unfold baseB at h
  rw [Bool.or_eq_true, decide_eq_true_iff] at h
  rcases h with rfl | h
  · exact fun c hc => by simp at hc
  · exact dns_asc h

set_option maxRecDepth 100000 in
set_option maxHeartbeats 2000000 in
theorem ppat_any (L : List UInt8) (hL : L.length ≤ 100000) (w : World) :
    Calls Tryd.prog 15 #[.string (strOf L)] w fun e w' => e = .returned (.bool (patB L)) ∧ Below w.heap.size w w' := by
  rcases pat_form L with ⟨r, rfl⟩ | hn
  · have es : (strOf (42 :: 46 :: r)).size = r.length + 2 := strOf_size _
    have HS := Lib.hid (fun w => pstar_yes r w)
    have HP := Lib.hid (pat_star r)
    obtain ⟨S, hS⟩ : ∃ S, strOf (42 :: 46 :: r) = S := ⟨_, rfl⟩
    have hr : r.length ≤ 100000 := by have : (42 :: 46 :: r : List UInt8).length = r.length + 2 := rfl; omega
    rw [hS] at HS es ⊢
    by_cases h1 : r.length + 2 ≤ 128
    · have d1 : decide ((r.length : Int) + 2 ≤ 128) = true := by simp; omega
      have d2 : decide (((r.length + 2 : Nat) : Int) ≤ 128) = true := by simp; omega
      have HP2 := Lib.hid (show patB (42 :: 46 :: r) = (dnsB r && r.contains 46) by rw [HP.out, decide_eq_true h1]; rfl)
      cases h2 : dnsB r with
      | true =>
        obtain ⟨b, hb⟩ : ∃ b, r.contains 46 = b := ⟨_, rfl⟩
        have HP3 := Lib.hid (show patB (42 :: 46 :: r) = b by rw [HP2.out, h2, hb]; rfl)
        have HD := Lib.hid (fun w => pdns_is h2 hr w)
        have HC := Lib.hid (fun w => phas_is hb w)
        clear h2 hS hb
        go_enter Tryd.func15, Tryd.ntmps15
        go_wp2_with (first
          | (go_at_call 43; (with_reducible refine (HS.out _).mono ?_); rintro e w1 ⟨rfl, rfl⟩)
          | (go_at_call 13; (with_reducible refine (HD.out _).mono ?_); rintro e w2 ⟨rfl, hb2⟩; have HB2 := Lib.hid hb2; clear hb2)
          | (go_at_call 44; (with_reducible refine (HC.out _).mono ?_); rintro e w3 ⟨rfl, rfl⟩))
        go_ret
        exact ⟨by rw [HP3.out]; rfl, HB2.out⟩
      | false =>
        have HP3 := Lib.hid (show patB (42 :: 46 :: r) = false by rw [HP2.out, h2]; rfl)
        have HD := Lib.hid (fun w => pdns_is h2 hr w)
        clear h2 hS
        go_enter Tryd.func15, Tryd.ntmps15
        go_wp2_with (first
          | (go_at_call 43; (with_reducible refine (HS.out _).mono ?_); rintro e w1 ⟨rfl, rfl⟩)
          | (go_at_call 13; (with_reducible refine (HD.out _).mono ?_); rintro e w2 ⟨rfl, hb2⟩; have HB2 := Lib.hid hb2; clear hb2))
        go_ret
        exact ⟨by rw [HP3.out]; rfl, HB2.out⟩
    · have d1 : decide ((r.length : Int) + 2 ≤ 128) = false := by simp; omega
      have d2 : decide (((r.length + 2 : Nat) : Int) ≤ 128) = false := by simp; omega
      have HP2 := Lib.hid (show patB (42 :: 46 :: r) = false by rw [HP.out, decide_eq_false h1]; rfl)
      clear hS
      go_enter Tryd.func15, Tryd.ntmps15
      go_wp2_with (go_at_call 43; (with_reducible refine (HS.out _).mono ?_); rintro e w1 ⟨rfl, rfl⟩)
      go_ret
      exact ⟨by rw [HP2.out]; rfl, Below.refl _ _⟩
  · have HS := Lib.hid (fun w => pstar_no hn w)
    have HP := Lib.hid (pat_plain hn)
    have HD := Lib.hid (fun w => pdns_any L hL w)
    clear hn
    go_enter Tryd.func15, Tryd.ntmps15
    go_wp2_with (first
      | (go_at_call 43; (with_reducible refine (HS.out _).mono ?_); rintro e w1 ⟨rfl, rfl⟩)
      | (go_at_call 13; (with_reducible refine (HD.out _).mono ?_); rintro e w2 ⟨rfl, hb2⟩; have HB2 := Lib.hid hb2; clear hb2))
    go_ret
    exact ⟨by rw [HP.out]; rfl, HB2.out⟩

set_option maxRecDepth 100000 in
set_option maxHeartbeats 2000000 in
theorem pbase_any (L : List UInt8) (hL : L.length ≤ 100000) (w : World) :
    Calls Tryd.prog 17 #[.string (strOf L)] w fun e w' => e = .returned (.bool (baseB L)) ∧ Below w.heap.size w w' := by
  have HD := Lib.hid (fun w => pdns_any L hL w)
  by_cases h : L = []
  · obtain ⟨hbe, hbp⟩ := empty_is h
    have HE := Lib.hid (show baseB L = true by unfold baseB; rw [decide_eq_true h]; rfl)
    clear h
    go_enter Tryd.func17, Tryd.ntmps17
    go_wp2_with fail
    go_ret
    exact ⟨by rw [HE.out]; rfl, Below.refl _ _⟩
  · obtain ⟨hbe, hbp⟩ := empty_not h
    have HE := Lib.hid (show baseB L = dnsB L by unfold baseB; rw [decide_eq_false h]; rfl)
    clear h
    go_enter Tryd.func17, Tryd.ntmps17
    go_wp2_with (go_at_call 13; (with_reducible refine (HD.out _).mono ?_); rintro e w1 ⟨rfl, hb1⟩; have HB1 := Lib.hid hb1; clear hb1)
    go_ret
    exact ⟨by rw [HE.out]; rfl, HB1.out⟩
theorem ppat_is {L : List UInt8} {b : Bool} (h : patB L = b) (hL : L.length ≤ 100000) (w : World) :
    Calls Tryd.prog 15 #[.string (strOf L)] w fun e w' => e = .returned (.bool b) ∧ Below w.heap.size w w' := by
  have := ppat_any L hL w
  rwa [h] at this
theorem pbase_is {L : List UInt8} {b : Bool} (h : baseB L = b) (hL : L.length ≤ 100000) (w : World) :
    Calls Tryd.prog 17 #[.string (strOf L)] w fun e w' => e = .returned (.bool b) ∧ Below w.heap.size w w' := by
  have := pbase_any L hL w
  rwa [h] at this
end Go.Proofs.YtoogfipmdkneoaaDoor
