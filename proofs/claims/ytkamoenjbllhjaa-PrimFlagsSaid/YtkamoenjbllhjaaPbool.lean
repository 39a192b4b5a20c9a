/-
  The contracts of Boolean and PutBoolean, the program's and the reference's.
-/
import Derived.Test.YtkamoenjbllhjaaPspec
namespace Go.Proofs.Ytkamoenjbllhjaa
open Go.RowKit

theorem list_strOf (l : List UInt8) : (strOf l).toList = l := by rw [ByteArray.toList_eq]; rfl
theorem toList_no {c : ByteArray} {l : List UInt8} (h : c ≠ strOf l) : (c.toList == l) = false := by
  apply beq_eq_false_iff_ne.2
  intro e
  apply h
  apply ByteArray.ext
  apply Array.ext'
  rw [← ByteArray.toList_eq, e]
  rfl
theorem toList_bne {c : ByteArray} {l : List UInt8} (h : c ≠ strOf l) : (c.toList != l) = true := by
  rw [bne, toList_no h]; rfl
theorem bol_zero : bolVal ⟨#[0]⟩ = .tuple #[.bool false, .int .i64 0] := by unfold bolVal; rw [if_pos rfl]
theorem bol_one : bolVal ⟨#[255]⟩ = .tuple #[.bool true, .int .i64 0] := by unfold bolVal; rw [if_neg (by decide), if_pos rfl]
theorem bol_bad {c : ByteArray} (h : c ≠ ⟨#[0]⟩) (k : c ≠ ⟨#[255]⟩) : bolVal c = .tuple #[.bool false, .int .i64 7] := by unfold bolVal; rw [if_neg h, if_neg k]

set_option maxRecDepth 100000 in
theorem bol_any (c : ByteArray) (w : World) :
    Calls Try.prog 10 #[.string c] w fun e w' => e = .returned (bolVal c) ∧ w' = w := by
  by_cases h0 : c = ⟨#[0]⟩
  · subst h0
    rw [bol_zero]
    go_enter Try.func10, Try.ntmps10
    go_wp2_with fail
    go_ret2
    exact ⟨rfl, rfl⟩
  · by_cases h1 : c = ⟨#[255]⟩
    · subst h1
      rw [bol_one]
      go_enter Try.func10, Try.ntmps10
      go_wp2_with fail
      go_ret2
      exact ⟨rfl, rfl⟩
    · rw [bol_bad h0 h1]
      have e0 : (c.toList == [0]) = false := toList_no (l := [0]) h0
      have e1 : (c.toList == [255]) = false := toList_no (l := [255]) h1
      clear h0 h1
      go_enter Try.func10, Try.ntmps10
      go_wp2_with fail
      go_ret2
      exact ⟨rfl, rfl⟩
set_option maxRecDepth 100000 in
theorem rbol_any (c : ByteArray) (w : World) :
    Calls Try.prog 11 #[.string c] w fun e w' => e = .returned (bolVal c) ∧ w' = w := by
  by_cases h0 : c = ⟨#[0]⟩
  · subst h0
    rw [bol_zero]
    go_enter Try.func11, Try.ntmps11
    go_wp2_with fail
    go_ret2
    exact ⟨rfl, rfl⟩
  · by_cases h1 : c = ⟨#[255]⟩
    · subst h1
      rw [bol_one]
      go_enter Try.func11, Try.ntmps11
      go_wp2_with fail
      go_ret2
      exact ⟨rfl, rfl⟩
    · rw [bol_bad h0 h1]
      have e0 : (c.toList == [0]) = false := toList_no (l := [0]) h0
      have e1 : (c.toList == [255]) = false := toList_no (l := [255]) h1
      clear h0 h1
      go_enter Try.func11, Try.ntmps11
      go_wp2_with fail
      go_ret2
      exact ⟨rfl, rfl⟩
set_option maxRecDepth 100000 in
theorem putBol_any (v : Bool) (w : World) :
    Calls Try.prog 12 #[.bool v] w fun e w' => e = .returned (.string (putBol v)) ∧ w' = w := by
  cases v with
  | true =>
    go_enter Try.func12, Try.ntmps12
    go_wp2_with fail
    go_ret
    exact ⟨rfl, rfl⟩
  | false =>
    go_enter Try.func12, Try.ntmps12
    go_wp2_with fail
    go_ret
    exact ⟨rfl, rfl⟩
set_option maxRecDepth 100000 in
theorem rputBol_any (v : Bool) (w : World) :
    Calls Try.prog 13 #[.bool v] w fun e w' => e = .returned (.string (putBol v)) ∧ w' = w := by
  cases v with
  | true =>
    go_enter Try.func13, Try.ntmps13
    go_wp2_with fail
    go_ret
    exact ⟨rfl, rfl⟩
  | false =>
    go_enter Try.func13, Try.ntmps13
    go_wp2_with fail
    go_ret
    exact ⟨rfl, rfl⟩
end Go.Proofs.Ytkamoenjbllhjaa
