/-
  The contracts of strings.Cut at one byte, of strings.CutPrefix and TrimPrefix and of strings.Contains at one byte.
-/
import Derived.Test.YtjdfgalcnbnobaaDoorAab
import Derived.Test.YtjdfgalcnbnobaaDoorAba
namespace Go.Proofs.YtjdfgalcnbnobaaDoor
open Go.RowKit

def ctK (c : UInt8) (l : List UInt8) : Nat := (l.takeWhile (fun x => x != c)).length
theorem ctK_cons (c x : UInt8) (l : List UInt8) : ctK c (x :: l) = if x = c then 0 else ctK c l + 1 := by
  unfold ctK
  by_cases h : x = c
  · rw [if_pos h, List.takeWhile_cons, if_neg (by simp [h])]
    rfl
  · rw [if_neg h, List.takeWhile_cons, if_pos (by simp [h])]
    rfl
theorem ctK_miss {c : UInt8} : ∀ {l : List UInt8}, c ∉ l → ctK c l = l.length
  | [], _ => rfl
  | x :: l, h => by
    rw [ctK_cons, if_neg (fun e => h (by simp [e])), ctK_miss (fun m => h (by simp [m]))]
    rfl
theorem ctK_at {c : UInt8} {r : List UInt8} : ∀ {p : List UInt8}, c ∉ p → ctK c (p ++ c :: r) = p.length
  | [], _ => by
    rw [List.nil_append, ctK_cons, if_pos rfl]
    rfl
  | x :: p, h => by
    rw [List.cons_append, ctK_cons, if_neg (fun e => h (by simp [e])), ctK_at (fun m => h (by simp [m]))]
    rfl
theorem ctK_hit {c : UInt8} {l : List UInt8} {i : Nat} (h : Lib.indexByte l c = i) (hi : i < l.length) : ctK c l = i := by
  obtain ⟨e1, e2⟩ := first_cut h
  conv => lhs; rw [e1]
  rw [ctK_at e2, List.length_take]
  omega
theorem ctK_le (c : UInt8) (l : List UInt8) : ctK c l ≤ l.length := by
  rcases index_cases l c with ⟨_, h⟩ | ⟨i, h, hi⟩
  · rw [ctK_miss h]; exact Nat.le_refl _
  · rw [ctK_hit h hi]; omega
set_option maxRecDepth 100000 in
set_option maxHeartbeats 1000000 in
theorem pcut_hit (L : List UInt8) (c : UInt8) (i : Nat) (h : Lib.indexByte L c = i) (hi : i < L.length) (hL : L.length ≤ 1000000) (w : World) :
    Calls Tryd.prog 51 #[.string (strOf L), .string ⟨#[c]⟩] w fun e w' => e = .returned (.tuple #[.string (strOf (L.take i)), .string (strOf (L.drop (i + 1))), .bool true]) ∧ Below w.heap.size w w' := by
  have hx := fun w => index_byte (strOf L) c w
  rw [strOf_list, h] at hx
  have HX := Lib.hid hx
  have es := strOf_size L
  have c1 : (0 : Int) ≤ (i : Int) := by omega
  have c2 : (i : Int) ≤ (L.length : Int) := by omega
  have c3 : (i : Int) + 1 ≤ (L.length : Int) := by omega
  have d0 : decide ((0 : Int) ≤ (i : Int)) = true := by simp
  have hw1 : wrap64 ((i : Int) + 1) = (i : Int) + 1 := by unfold wrap64; omega
  have hs1 := slice_front L i (by omega)
  have hs2 := slice_back L (i + 1) (by omega) ((i : Int) + 1) (by omega)
  generalize L.take i = A at hs1
  generalize L.drop (i + 1) = B at hs2
  clear hx h
  go_enter Tryd.func51, Tryd.ntmps51
  go_wp2_with (go_at_call 65; (with_reducible refine (HX.out _).mono ?_); rintro e w1 ⟨rfl, rfl⟩)
  go_region_o
  go_wp2
  go_ret3
  exact ⟨rfl, (Below.refl _ _).drew⟩
set_option maxRecDepth 100000 in
set_option maxHeartbeats 1000000 in
theorem pcut_miss (L : List UInt8) (c : UInt8) (h : Lib.indexByte L c = -1) (w : World) :
    Calls Tryd.prog 51 #[.string (strOf L), .string ⟨#[c]⟩] w fun e w' => e = .returned (.tuple #[.string (strOf L), .string ⟨#[]⟩, .bool false]) ∧ Below w.heap.size w w' := by
  have hx := fun w => index_byte (strOf L) c w
  rw [strOf_list, h] at hx
  have HX := Lib.hid hx
  clear hx h
  go_enter Tryd.func51, Tryd.ntmps51
  go_wp2_with (go_at_call 65; (with_reducible refine (HX.out _).mono ?_); rintro e w1 ⟨rfl, rfl⟩)
  go_ret3
  exact ⟨rfl, Below.refl _ _⟩
theorem pcutl_any (L : List UInt8) (c : UInt8) (hL : L.length ≤ 1000000) (w : World) :
    Calls Tryd.prog 51 #[.string (strOf L), .string ⟨#[c]⟩] w fun e w' =>
      e = .returned (.tuple #[.string (strOf (L.take (ctK c L))), .string (strOf (L.drop (ctK c L + 1))), .bool (decide (ctK c L < L.length))]) ∧ Below w.heap.size w w' := by
  rcases index_cases L c with ⟨h, hno⟩ | ⟨i, h, hi⟩
  · rw [ctK_miss hno, List.take_length, List.drop_eq_nil_of_le (by omega), decide_eq_false (by omega)]
    exact pcut_miss L c h w
  · rw [ctK_hit h hi, decide_eq_true hi]
    exact pcut_hit L c i h hi hL w
set_option maxRecDepth 100000 in
theorem pcut_any (L : List UInt8) (c : UInt8) (hL : L.length ≤ 1000000) (w : World) :
    Calls Tryd.prog 37 #[.string (strOf L), .string ⟨#[c]⟩] w fun e w' =>
      e = .returned (.tuple #[.string (strOf (L.take (ctK c L))), .string (strOf (L.drop (ctK c L + 1))), .bool (decide (ctK c L < L.length))]) ∧ Below w.heap.size w w' := by
  have HC := Lib.hid (fun w => pcutl_any L c hL w)
  generalize L.take (ctK c L) = A at HC
  generalize L.drop (ctK c L + 1) = B at HC
  generalize decide (ctK c L < L.length) = b at HC
  go_enter Tryd.func37, Tryd.ntmps37
  go_wp2_with (go_at_call 51; (with_reducible refine (HC.out _).mono ?_); rintro e w1 ⟨rfl, hb⟩; have HB := Lib.hid hb; clear hb)
  go_ret3
  exact ⟨rfl, HB.out⟩

theorem pstar_yes (r : List UInt8) (w : World) : Calls Tryd.prog 53 #[.string (strOf (42 :: 46 :: r)), .string ⟨#[42, 46]⟩] w fun e w' => e = .returned (.tuple #[.string (strOf r), .bool true]) ∧ w' = w := by
  have h := Any.strings_CutPrefix lays103 (strOf (42 :: 46 :: r)) ⟨#[42, 46]⟩ w
  have e1 : Lib.hasPrefix (strOf (42 :: 46 :: r)).data.toList (⟨#[42, 46]⟩ : ByteArray).data.toList = true := by rw [strOf_list]; rfl
  have e2 : Lib.trimPrefix (strOf (42 :: 46 :: r)).data.toList (⟨#[42, 46]⟩ : ByteArray).data.toList = r := by unfold Lib.trimPrefix; rw [if_pos e1, strOf_list]; rfl
  rw [e1, e2] at h
  exact h
theorem pstar_no {L : List UInt8} (hn : ∀ r, L ≠ 42 :: 46 :: r) (w : World) : Calls Tryd.prog 53 #[.string (strOf L), .string ⟨#[42, 46]⟩] w fun e w' => e = .returned (.tuple #[.string (strOf L), .bool false]) ∧ w' = w := by
  have h := Any.strings_CutPrefix lays103 (strOf L) ⟨#[42, 46]⟩ w
  have e1 : Lib.hasPrefix (strOf L).data.toList (⟨#[42, 46]⟩ : ByteArray).data.toList = false := by
    rw [strOf_list, Bool.eq_false_iff]
    intro k
    obtain ⟨r, hr⟩ := List.isPrefixOf_iff_prefix.1 k
    exact hn r hr.symm
  have e2 : Lib.trimPrefix (strOf L).data.toList (⟨#[42, 46]⟩ : ByteArray).data.toList = L := by unfold Lib.trimPrefix; rw [if_neg (by rw [e1]; simp), strOf_list]
  rw [e1, e2] at h
  exact h
theorem pdot_yes (r : List UInt8) (w : World) : Calls Tryd.prog 49 #[.string (strOf (46 :: r)), .string ⟨#[46]⟩] w fun e w' => e = .returned (.string (strOf r)) ∧ w' = w := by
  have h := Any.strings_TrimPrefix lays101 (strOf (46 :: r)) ⟨#[46]⟩ w
  have e1 : Lib.hasPrefix (strOf (46 :: r)).data.toList (⟨#[46]⟩ : ByteArray).data.toList = true := by rw [strOf_list]; rfl
  have e2 : Lib.trimPrefix (strOf (46 :: r)).data.toList (⟨#[46]⟩ : ByteArray).data.toList = r := by unfold Lib.trimPrefix; rw [if_pos e1, strOf_list]; rfl
  rw [e2] at h
  exact h
theorem pdot_no {L : List UInt8} (hn : L.head? ≠ some 46) (w : World) : Calls Tryd.prog 49 #[.string (strOf L), .string ⟨#[46]⟩] w fun e w' => e = .returned (.string (strOf L)) ∧ w' = w := by
  have h := Any.strings_TrimPrefix lays101 (strOf L) ⟨#[46]⟩ w
  have e1 : Lib.hasPrefix (strOf L).data.toList (⟨#[46]⟩ : ByteArray).data.toList = false := by
    rw [strOf_list, Bool.eq_false_iff]
    intro k
    obtain ⟨r, hr⟩ := List.isPrefixOf_iff_prefix.1 k
    exact hn (by rw [← hr]; rfl)
  have e2 : Lib.trimPrefix (strOf L).data.toList (⟨#[46]⟩ : ByteArray).data.toList = L := by unfold Lib.trimPrefix; rw [if_neg (by rw [e1]; simp), strOf_list]
  rw [e2] at h
  exact h
theorem phas_dot (L : List UInt8) (w : World) : Calls Tryd.prog 54 #[.string (strOf L), .string ⟨#[46]⟩] w fun e w' => e = .returned (.bool (L.contains 46)) ∧ w' = w := by
  rw [idx_has]
  exact Any.strings_Contains_one lays144 (strOf L) 46 w
theorem ppre_dot (L : List UInt8) (w : World) : Calls Tryd.prog 52 #[.string (strOf L), .string ⟨#[46]⟩] w fun e w' => e = .returned (.bool (L.head? == some 46)) ∧ w' = w := by
  have h := Any.strings_HasPrefix lays99 (strOf L) ⟨#[46]⟩ w
  have e1 : Lib.hasPrefix (strOf L).data.toList (⟨#[46]⟩ : ByteArray).data.toList = (L.head? == some 46) := by
    rw [strOf_list]
    cases L with
    | nil => rfl
    | cons x r =>
      show (List.isPrefixOf [46] (x :: r)) = _
      rw [Bool.eq_iff_iff, List.isPrefixOf_iff_prefix, beq_iff_eq]
      constructor
      · rintro ⟨q, hq⟩
        rw [← hq]
        rfl
      · intro k
        have k2 : x = 46 := Option.some.inj k
        rw [k2]
        exact ⟨r, rfl⟩
  rw [e1] at h
  exact h
theorem psuf_dot (L : List UInt8) (hL : L.length ≤ 1000000) (w : World) : Calls Tryd.prog 62 #[.string (strOf L), .string ⟨#[46]⟩] w fun e w' => e = .returned (.bool (L.getLast? == some 46)) ∧ w' = w := by
  have h := Any.strings_HasSuffix lays100 (strOf L) ⟨#[46]⟩ w (by rw [strOf_size]; omega)
  have e1 : Lib.hasSuffix (strOf L).data.toList (⟨#[46]⟩ : ByteArray).data.toList = (L.getLast? == some 46) := by
    rw [strOf_list]
    show (List.isSuffixOf [46] L) = _
    rw [Bool.eq_iff_iff, List.isSuffixOf_iff_suffix, beq_iff_eq]
    constructor
    · rintro ⟨p, rfl⟩
      simp
    · intro k
      obtain ⟨p, rfl⟩ := List.getLast?_eq_some_iff.1 k
      exact List.suffix_append _ _
  rw [e1] at h
  exact h
end Go.Proofs.YtjdfgalcnbnobaaDoor
