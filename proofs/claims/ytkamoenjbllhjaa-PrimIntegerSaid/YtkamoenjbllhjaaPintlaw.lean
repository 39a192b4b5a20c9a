/-
  The walk of the law PrimInteger: for every string and every two bytes it returns true, and leaves all that was there as it was.
-/
import Derived.Test.YtkamoenjbllhjaaPrint
import Derived.Test.YtkamoenjbllhjaaPboollaw
namespace Go.Proofs.Ytkamoenjbllhjaa
open Go.RowKit

theorem int_form (c : ByteArray) : ∃ (v : Int) (n : Nat), intVal c = .tuple #[.int .i64 v, .int .i64 ((n : Nat) : Int)] := ⟨_, _, rfl⟩

set_option maxRecDepth 100000 in
set_option maxHeartbeats 4000000 in
theorem intlaw_core (c : ByteArray) (l k n m : Nat) (w : World) (hl : l < 256) (hn : n < 256) (hk : k = l % 7) (hm : m = n % 11) (hc : c.size ≤ 20) :
    Calls Try.prog 4 #[.string c, .int .u8 (l : Int), .int .u8 (n : Int)] w fun e w' => e = .returned (.bool true) ∧ Below w.heap.size w w' := by
  have d : decide ((20 : Int) < (c.size : Int)) = false := by simp; omega
  have e1 : (l : Int) % 7 = (k : Int) := by omega
  have e2 : (n : Int) % 11 = (m : Int) := by omega
  obtain ⟨H, hH⟩ : ∃ H : ByteArray, H = [⟨#[]⟩, ⟨#[0]⟩, ⟨#[255]⟩, ⟨#[0, 0]⟩, ⟨#[255, 255]⟩, ⟨#[128]⟩, ⟨#[127]⟩].getD k ⟨#[]⟩ := ⟨_, rfl⟩
  have hk7 : k < 7 := by omega
  have hm11 : m < 11 := by omega
  have hcell : (w.alloc (.cells #[.string ⟨#[]⟩, .string ⟨#[0]⟩, .string ⟨#[255]⟩, .string ⟨#[0, 0]⟩, .string ⟨#[255, 255]⟩, .string ⟨#[128]⟩, .string ⟨#[127]⟩] 9)).cell? ⟨w.heap.size, k, none⟩ = some (.string H) := by
    rw [hH]
    exact row_strs w [⟨#[]⟩, ⟨#[0]⟩, ⟨#[255]⟩, ⟨#[0, 0]⟩, ⟨#[255, 255]⟩, ⟨#[128]⟩, ⟨#[127]⟩] k hk7
  have hHs : H.size ≤ 2 := by
    rw [hH]
    rcases (by omega : k = 0 ∨ k = 1 ∨ k = 2 ∨ k = 3 ∨ k = 4 ∨ k = 5 ∨ k = 6) with rfl | rfl | rfl | rfl | rfl | rfl | rfl <;> decide
  obtain ⟨L, hL⟩ : ∃ L : List ByteArray, L = [c, H ++ c, (H ++ c).extract 0 (min ((H.size : Int) + (c.size : Int)) (m : Int)).toNat] := ⟨_, rfl⟩
  have hcl : ∀ j, j < 3 → ((w.alloc (.cells #[.string ⟨#[]⟩, .string ⟨#[0]⟩, .string ⟨#[255]⟩, .string ⟨#[0, 0]⟩, .string ⟨#[255, 255]⟩, .string ⟨#[128]⟩, .string ⟨#[127]⟩] 9)).alloc (.cells #[.string c, .string (H ++ c), .string ((H ++ c).extract 0 (min ((H.size : Int) + (c.size : Int)) (m : Int)).toNat)] 9)).cell? ⟨w.heap.size + 1, j, none⟩ = some (.string (L.getD j ⟨#[]⟩)) := by
    intro j hj
    rw [hL]
    have := row_strs (w.alloc (.cells #[.string ⟨#[]⟩, .string ⟨#[0]⟩, .string ⟨#[255]⟩, .string ⟨#[0, 0]⟩, .string ⟨#[255, 255]⟩, .string ⟨#[128]⟩, .string ⟨#[127]⟩] 9)) [c, H ++ c, (H ++ c).extract 0 (min ((H.size : Int) + (c.size : Int)) (m : Int)).toNat] j hj
    rwa [show (w.alloc (.cells #[.string ⟨#[]⟩, .string ⟨#[0]⟩, .string ⟨#[255]⟩, .string ⟨#[0, 0]⟩, .string ⟨#[255, 255]⟩, .string ⟨#[128]⟩, .string ⟨#[127]⟩] 9)).heap.size = w.heap.size + 1 by simp] at this
  have HCL := Lib.hid hcl
  have HBA := Lib.hid ((belowNew w (.cells #[.string ⟨#[]⟩, .string ⟨#[0]⟩, .string ⟨#[255]⟩, .string ⟨#[0, 0]⟩, .string ⟨#[255, 255]⟩, .string ⟨#[128]⟩, .string ⟨#[127]⟩] 9)).alloc (by simp) (.cells #[.string c, .string (H ++ c), .string ((H ++ c).extract 0 (min ((H.size : Int) + (c.size : Int)) (m : Int)).toNat)] 9))
  clear hH hk hm hL hcl
  go_enter Try.func4, Try.ntmps4
  go_wp2_with fail
  clear e1 e2
  go_loopw [41] (fun i wr => ∃ k : Nat, k ≤ 3 ∧ i = .int .i64 k ∧ wr = (w.alloc (.cells #[.string ⟨#[]⟩, .string ⟨#[0]⟩, .string ⟨#[255]⟩, .string ⟨#[0, 0]⟩, .string ⟨#[255, 255]⟩, .string ⟨#[128]⟩, .string ⟨#[127]⟩] 9)).alloc (.cells #[.string c, .string (H ++ c), .string ((H ++ c).extract 0 (min ((H.size : Int) + (c.size : Int)) (m : Int)).toNat)] 9)) (fun i _ => 3 - (intOf i).toNat)
  case atStart => exact ⟨0, by omega, rfl, rfl⟩
  case round =>
    obtain ⟨j, hj, rfl, rfl⟩ := hrel
    by_cases hlt : j < 3
    · have hd3 : decide ((j : Int) < 3) = true := by simp; omega
      have hcx := HCL.out j hlt
      generalize L.getD j ⟨#[]⟩ = x at hcx
      obtain ⟨v, t, hV⟩ := int_form x
      have HV := Lib.hid hV
      clear hV
      go_wp2_with (first | (go_at_call 14; (with_reducible refine (int_any x _).mono ?_); rw [HV.out]; rintro e w2 ⟨rfl, rfl⟩) | (go_at_call 15; (with_reducible refine (rint_any x _).mono ?_); rw [HV.out]; rintro e w3 ⟨rfl, rfl⟩))
      go_roundw
      case rel => exact ⟨j + 1, by omega, by go_num, trivial⟩
      case measure => simp [intOf]; omega
    · have ej : j = 3 := by omega
      subst ej
      go_wp2_with (go_at_call 9; (with_reducible refine (awake_any _).mono ?_); rintro e w4 ⟨rfl, hb4⟩; have HB4 := Lib.hid hb4; clear hb4)
      go_ret
      exact ⟨rfl, below_next HBA.out HB4.out⟩
theorem intlaw (c : ByteArray) (l n : Nat) (w : World) (hl : l < 256) (hn : n < 256) :
    Calls Try.prog 4 #[.string c, .int .u8 (l : Int), .int .u8 (n : Int)] w fun e w' => e = .returned (.bool true) ∧ Below w.heap.size w w' := by
  by_cases h : 20 < c.size
  · have d : decide ((20 : Int) < (c.size : Int)) = true := by simp; omega
    clear h
    go_enter Try.func4, Try.ntmps4
    go_wp2_with (go_at_call 9; (with_reducible refine (awake_any _).mono ?_); rintro e w1 ⟨rfl, hb1⟩; have HB1 := Lib.hid hb1; clear hb1)
    go_ret
    exact ⟨rfl, HB1.out⟩
  · exact intlaw_core c l _ n _ w hl hn rfl rfl (by omega)
end Go.Proofs.Ytkamoenjbllhjaa
