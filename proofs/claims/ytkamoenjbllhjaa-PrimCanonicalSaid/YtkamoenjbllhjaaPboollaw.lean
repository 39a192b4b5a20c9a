/-
  The walk of the law PrimBoolean: for every string and both values it returns true, and leaves all that was there as it was.
-/
import Derived.Test.YtkamoenjbllhjaaPbool
import Derived.Test.YtkamoenjbllhjaaPawake
namespace Go.Proofs.Ytkamoenjbllhjaa
open Go.RowKit

theorem row_strs (W : World) (l : List ByteArray) (k : Nat) (hk : k < l.length) : (W.alloc (.cells (l.map Value.string).toArray 9)).cell? ⟨W.heap.size, k, none⟩ = some (.string (l.getD k ⟨#[]⟩)) := by
  rw [cell_of_row _ _ k _ _ _ (heap_alloc_new W _)]
  simp [hk]
theorem bol_form (c : ByteArray) : ∃ (b : Bool) (n : Nat), bolVal c = .tuple #[.bool b, .int .i64 ((n : Nat) : Int)] := by
  unfold bolVal
  split
  · exact ⟨_, 0, rfl⟩
  · split
    · exact ⟨_, 0, rfl⟩
    · exact ⟨_, 7, rfl⟩

set_option maxRecDepth 100000 in
set_option maxHeartbeats 2000000 in
theorem boollaw (c : ByteArray) (v : Bool) (w : World) :
    Calls Try.prog 3 #[.string c, .bool v] w fun e w' => e = .returned (.bool true) ∧ Below w.heap.size w w' := by
  by_cases h : 20 < c.size
  · have d : decide ((20 : Int) < (c.size : Int)) = true := by simp; omega
    clear h
    go_enter Try.func3, Try.ntmps3
    go_wp2_with (go_at_call 9; (with_reducible refine (awake_any _).mono ?_); rintro e w1 ⟨rfl, hb1⟩; have HB1 := Lib.hid hb1; clear hb1)
    go_ret
    exact ⟨rfl, HB1.out⟩
  · have d : decide ((20 : Int) < (c.size : Int)) = false := by simp; omega
    obtain ⟨L, hL⟩ : ∃ L : List ByteArray, L = [c, ⟨#[0]⟩, ⟨#[255]⟩, ⟨#[1]⟩] := ⟨_, rfl⟩
    have hcell : ∀ k, k < 4 → (w.alloc (.cells #[.string c, .string ⟨#[0]⟩, .string ⟨#[255]⟩, .string ⟨#[1]⟩] 9)).cell? ⟨w.heap.size, k, none⟩ = some (.string (L.getD k ⟨#[]⟩)) := by
      intro k hk
      rw [hL]
      exact row_strs w [c, ⟨#[0]⟩, ⟨#[255]⟩, ⟨#[1]⟩] k hk
    have HCL := Lib.hid hcell
    have HBA := Lib.hid (belowNew w (.cells #[.string c, .string ⟨#[0]⟩, .string ⟨#[255]⟩, .string ⟨#[1]⟩] 9))
    clear h hL hcell
    go_enter Try.func3, Try.ntmps3
    go_wp2_with fail
    go_loopw [18] (fun i wr => ∃ k : Nat, k ≤ 4 ∧ i = .int .i64 k ∧ wr = w.alloc (.cells #[.string c, .string ⟨#[0]⟩, .string ⟨#[255]⟩, .string ⟨#[1]⟩] 9)) (fun i _ => 4 - (intOf i).toNat)
    case atStart => exact ⟨0, by omega, rfl, rfl⟩
    case round =>
      obtain ⟨k, hk, rfl, rfl⟩ := hrel
      by_cases hlt : k < 4
      · have hd4 : decide ((k : Int) < 4) = true := by simp; omega
        have hcx := HCL.out k hlt
        generalize L.getD k ⟨#[]⟩ = x at hcx
        obtain ⟨b, n, hV⟩ := bol_form x
        have HV := Lib.hid hV
        clear hV
        go_wp2_with (first | (go_at_call 10; (with_reducible refine (bol_any x _).mono ?_); rw [HV.out]; rintro e w2 ⟨rfl, rfl⟩) | (go_at_call 11; (with_reducible refine (rbol_any x _).mono ?_); rw [HV.out]; rintro e w3 ⟨rfl, rfl⟩))
        go_roundw
        case rel => exact ⟨k + 1, by omega, by go_num, trivial⟩
        case measure => simp [intOf]; omega
      · have ek : k = 4 := by omega
        subst ek
        go_wp2_with (first | (go_at_call 9; (with_reducible refine (awake_any _).mono ?_); rintro e w4 ⟨rfl, hb4⟩; have HB4 := Lib.hid hb4; clear hb4) | (go_at_call 12; (with_reducible refine (putBol_any v _).mono ?_); rintro e w5 ⟨rfl, rfl⟩) | (go_at_call 13; (with_reducible refine (rputBol_any v _).mono ?_); rintro e w6 ⟨rfl, rfl⟩))
        go_ret
        exact ⟨by simp, below_next HBA.out HB4.out⟩
end Go.Proofs.Ytkamoenjbllhjaa
