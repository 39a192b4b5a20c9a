/-
  The contracts of the reference's pad and digits.
-/
import Derived.Test.YtkgdkaopbnodpaaDoorDdecno
import Derived.Test.YtkgdkaopbnodpaaDoorDform
namespace Go.Proofs.YtkgdkaopbnodpaaDoor
open Go.RowKit

/-- A number with at least n digits. -/
def padL (v n : Nat) : List UInt8 := List.replicate (n - (Lib.decDigits v).length) 48 ++ Lib.decDigits v
theorem dd1 {n : Nat} (h : n < 10) : Lib.decDigits n = [dig n] := by
  rw [Lib.decDigits_one h]
  unfold dig
  rw [Nat.mod_eq_of_lt h]
theorem dd_next {n : Nat} (h : ¬ n < 10) : Lib.decDigits n = Lib.decDigits (n / 10) ++ [dig n] := by
  conv => lhs; rw [Lib.decDigits]
  rw [dif_neg h]
  rfl
theorem pad_two {v : Nat} (h : v < 100) : padL v 2 = d2 v := by
  unfold padL d2
  by_cases h10 : v < 10
  · rw [dd1 h10]
    have e : v / 10 = 0 := by omega
    rw [e]; rfl
  · rw [dd_next h10, dd1 (n := v / 10) (by omega)]
    rfl
theorem pad_four {v : Nat} (h : 1000 ≤ v) (h2 : v < 10000) : padL v 4 = d4 v := by
  unfold padL d4
  rw [dd_next (n := v) (by omega), dd_next (n := v / 10) (by omega), dd_next (n := v / 10 / 10) (by omega), dd1 (n := v / 10 / 10 / 10) (by omega)]
  rfl

def strLen : Value → Nat
  | .string s => s.size
  | _ => 0
set_option maxRecDepth 100000 in
set_option maxHeartbeats 1000000 in
theorem rpad_any (v n : Nat) (w : World) (hv : v ≤ 1000000) (hn : n ≤ 100) :
    Calls Tryd.prog 36 #[.int .i64 (v : Int), .int .i64 (n : Int)] w fun E w' => E = .returned (.string (strOf (padL v n))) ∧ Below w.heap.size w w' := by
  have HD := Lib.hid (fun w => decno_any v w (by omega))
  have hl : (Lib.decDigits v).length ≤ 20 := Nat.le_trans (dec_len 7 v (by omega) (by omega)) (by omega)
  generalize hS : Lib.decDigits v = S at HD hl
  unfold padL
  rw [hS]
  clear hS
  go_enter Tryd.func36, Tryd.ntmps36
  go_wp2_with (go_at_call 43; (with_reducible refine (HD.out _).mono ?_); rintro E w1 ⟨rfl, hb1⟩; have HB1 := Lib.hid hb1; clear hb1)
  go_loopw [5] (fun s wr => ∃ k : Nat, k ≤ n - S.length ∧ s = .string (strOf (List.replicate k 48 ++ S)) ∧ wr = w1) (fun s _ => 200 - strLen s)
  case atStart => exact ⟨0, by omega, rfl, rfl⟩
  case round =>
    obtain ⟨k, hk, rfl, rfl⟩ := hrel
    have hz : (strOf (List.replicate k 48 ++ S)).size = k + S.length := by rw [strOf_size]; simp
    by_cases hlt : k < n - S.length
    · have d1 : decide ((((strOf (List.replicate k 48 ++ S)).size : Nat) : Int) < (n : Int)) = true := decide_eq_true (by omega)
      have d2 : decide ((strOf (List.replicate k 48 ++ S)).size < n) = true := decide_eq_true (by omega)
      have hcat : ∀ w, (Op.stringOp .add ⟨#[48]⟩ (strOf (List.replicate k 48 ++ S))).run Tryd.prog w = .ok (.string (strOf (List.replicate (k + 1) 48 ++ S))) w := fun w => by
        rw [run_string_add_sum w _ _ (by rw [hz]; show 1 + _ ≤ _; omega)]
        rw [show (⟨#[48]⟩ : ByteArray) = strOf [48] from rfl, str_cat, List.replicate_succ]; rfl
      have HZ := Lib.hid hz
      have HZ2 := Lib.hid (show (strOf (List.replicate (k + 1) 48 ++ S)).size = k + 1 + S.length by rw [strOf_size]; simp)
      clear hz
      have HX := Lib.hid (show ∃ X, X = strOf (List.replicate (k + 1) 48 ++ S) from ⟨_, rfl⟩)
      go_wp2_with fail
      go_roundw
      case rel => exact ⟨k + 1, by omega, rfl, trivial⟩
      case measure =>
        have h1 := HZ.out
        have h2 := HZ2.out
        show 200 - (strOf (List.replicate (k + 1) 48 ++ S)).size < 200 - (strOf (List.replicate k 48 ++ S)).size
        omega
    · obtain rfl : k = n - S.length := by omega
      have d1 : decide ((((strOf (List.replicate (n - S.length) 48 ++ S)).size : Nat) : Int) < (n : Int)) = false := decide_eq_false (by omega)
      have d2 : decide ((strOf (List.replicate (n - S.length) 48 ++ S)).size < n) = false := decide_eq_false (by omega)
      clear hz
      go_wp2_with fail
      go_ret
      exact ⟨rfl, HB1.out⟩
end Go.Proofs.YtkgdkaopbnodpaaDoor
