/-
  The contract of the law's function awake: the chapter's examples answer as written.
-/
import Derived.Test.YtapokiplmcfmoaaDoorOrenc
namespace Go.Proofs.YtapokiplmcfmoaaDoor
open Go.RowKit

theorem dd1 {n : Nat} (h : n < 10) : Lib.decDigits n = [UInt8.ofNat (48 + n)] := Lib.decDigits_one h
theorem dd2 {n : Nat} (h1 : ¬ n < 10) (h2 : n < 100) : Lib.decDigits n = [UInt8.ofNat (48 + n / 10), UInt8.ofNat (48 + n % 10)] := Lib.decDigits_two h1 h2
theorem e128_small {n : Nat} (h : n < 128) : e128 n = [UInt8.ofNat n] := by
  rw [e128, Nat.div_eq_of_lt h, hd7_zero, Nat.mod_eq_of_lt h]; rfl
theorem oid_ex : Oid [50, 46, 53, 46, 50, 57, 46, 49, 57] [2, 5, 29, 19] := by
  refine ⟨⟨by decide, by decide, by decide, by decide, by decide⟩, ?_⟩
  simp only [cat, fdot]
  rw [dd1 (n := 2) (by omega), dd1 (n := 5) (by omega), dd2 (n := 29) (by omega) (by omega), dd2 (n := 19) (by omega) (by omega)]
  rfl
theorem enc_ex : enc [2, 5, 29, 19] = [85, 29, 19] := by
  simp only [enc, numsOf, cat]
  rw [e128_small (n := 40 * 2 + 5) (by omega), e128_small (n := 29) (by omega), e128_small (n := 19) (by omega)]
  rfl
theorem oid_no : ∀ a, ¬ Oid [49, 46, 52, 48] a := by
  intro a h
  have e : ([49, 46, 52, 48] : List UInt8) ++ [46] = cat fdot [1, 40] := by
    simp only [cat, fdot]
    rw [dd1 (n := 1) (by omega), dd2 (n := 40) (by omega) (by omega)]
    rfl
  have e2 : a = [1, 40] := code_inj fdot_code fdot_ne (h.2.symm.trans e)
  have h5 := h.1.2.2.2.2
  rw [e2] at h5
  have := h5 (by decide)
  revert this; decide
theorem oid_240 : Oid [50, 46, 52, 48] [2, 40] := by
  refine ⟨⟨by decide, by decide, by decide, by decide, by decide⟩, ?_⟩
  simp only [cat, fdot]
  rw [dd1 (n := 2) (by omega), dd2 (n := 40) (by omega) (by omega)]
  rfl
theorem enc_aw (w : World) : Calls Tryd.prog 10 #[.string ⟨#[50, 46, 53, 46, 50, 57, 46, 49, 57]⟩] w fun e w' => e = .returned (.tuple #[.string ⟨#[85, 29, 19]⟩, .int .i64 0]) ∧ Below w.heap.size w w' := by
  have h := enc_yes (s := ⟨#[50, 46, 53, 46, 50, 57, 46, 49, 57]⟩) (a := [2, 5, 29, 19]) oid_ex w (by decide)
  unfold encVal at h
  rw [enc_ex] at h
  exact h
theorem valid_aw1 (w : World) : Calls Tryd.prog 12 #[.string ⟨#[49, 46, 52, 48]⟩] w fun e w' => e = .returned (.bool false) ∧ Below w.heap.size w w' :=
  valid_no (s := ⟨#[49, 46, 52, 48]⟩) oid_no w (by decide)
theorem valid_aw2 (w : World) : Calls Tryd.prog 12 #[.string ⟨#[50, 46, 52, 48]⟩] w fun e w' => e = .returned (.bool true) ∧ Below w.heap.size w w' :=
  valid_yes (s := ⟨#[50, 46, 52, 48]⟩) oid_240 w (by decide)

set_option maxRecDepth 100000 in
set_option maxHeartbeats 1000000 in
theorem awake_any (w : World) :
    Calls Tryd.prog 8 #[] w fun e w' => e = .returned (.bool true) ∧ Below w.heap.size w w' := by
  go_enter Tryd.func8, Tryd.ntmps8
  go_wp2_with (first
    | (go_at_call 10; (with_reducible refine (enc_aw _).mono ?_); rintro e w1 ⟨rfl, hb1⟩; have HB1 := Lib.hid hb1; clear hb1)
    | (go_at_call 12; (with_reducible refine (valid_aw1 _).mono ?_); rintro e w2 ⟨rfl, hb2⟩; have HB2 := Lib.hid hb2; clear hb2)
    | (go_at_call 12; (with_reducible refine (valid_aw2 _).mono ?_); rintro e w3 ⟨rfl, hb3⟩; have HB3 := Lib.hid hb3; clear hb3))
  go_ret
  exact ⟨rfl, below_next (below_next HB1.out HB2.out) HB3.out⟩
end Go.Proofs.YtapokiplmcfmoaaDoor
