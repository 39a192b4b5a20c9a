/-
  The walk of the law DateDecode: for all numbers of its parameters' types and every string it returns true, and leaves all that was there as it was.
-/
import Derived.Test.YtkgdkaopbnodpaaDoorDtext
namespace Go.Proofs.YtkgdkaopbnodpaaDoor
open Go.RowKit

/-- Decode and the reference's DecodeTime answer the same. -/
theorem both_dec (tag : Int) (s : ByteArray) : ∃ a b : Int, (∀ w, Mon w → Calls Tryd.prog 16 #[.int .i64 tag, .string s] w fun E w' => E = .returned (.tuple #[.int .i64 a, .int .i64 b]) ∧ Below w.heap.size w w') ∧
    (∀ w, Calls Tryd.prog 17 #[.int .i64 tag, .string s] w fun E w' => E = .returned (.tuple #[.int .i64 a, .int .i64 b]) ∧ Below w.heap.size w w') := by
  by_cases h : ∃ x, Con tag s.data.toList x
  · obtain ⟨x, hx⟩ := h
    exact ⟨_, _, fun w hT => dec_yes hx w hT, fun w => rdec_yes hx w⟩
  · have h2 : ∀ x, ¬ Con tag s.data.toList x := fun x hx => h ⟨x, hx⟩
    exact ⟨_, _, fun w hT => dec_no h2 w hT, fun w => rdec_no h2 w⟩

set_option maxRecDepth 100000 in
set_option maxHeartbeats 8000000 in
theorem declaw (tag : Int) (c : ByteArray) (t : Int) (k : Nat) (d : Int) (at' b how : Nat) (w : World) (hT : Mon w) (ht : I64 t) (hk : k < 65536) (hd : -128 ≤ d ∧ d ≤ 127) (hat : at' < 256) (hb : b < 256) (hh : how < 256) :
    Calls Tryd.prog 5 #[.int .i64 tag, .string c, .int .i64 t, .int .u16 (k : Int), .int .i8 d, .int .u8 (at' : Int), .int .u8 (b : Int), .int .u8 (how : Int)] w fun E w' => E = .returned (.bool true) ∧ Below w.heap.size w w' := by
  by_cases h60 : 60 < c.size
  · have e0 : decide (60 < (c.size : Int)) = true := decide_eq_true (by omega)
    have HA := Lib.hid (awake_any w hT)
    clear h60 hT
    go_enter Tryd.func5, Tryd.ntmps5
    go_wp2_with (go_at_call 13; (with_reducible refine HA.out.mono ?_); rintro E w1 ⟨rfl, hb1⟩; have HB1 := Lib.hid hb1; clear hb1)
    go_ret
    exact ⟨rfl, HB1.out⟩
  · have e0 : decide (60 < (c.size : Int)) = false := decide_eq_false (by omega)
    have HN := Lib.hid (fun w => near_any t k d w ht hk hd)
    have HX := Lib.hid (fun (t : Int) (tag : Int) w => text_any (t := t) tag at' b how w hat hb hh)
    have HT := Lib.hid hT
    clear h60 hT ht hk hd hat hb hh
    go_enter Tryd.func5, Tryd.ntmps5
    go_wp2_with fail
    have HRW := Lib.hid (show ∀ k, k < 3 → (w.alloc (.cells #[.int .i64 tag, .int .i64 23, .int .i64 24] 3)).cell? ⟨w.heap.size, k, none⟩ = some (.int .i64 ([tag, 23, 24].getD k 0)) from fun k hk => row_ints w [tag, 23, 24] k hk)
    have HBA := Lib.hid (belowNew w (.cells #[.int .i64 tag, .int .i64 23, .int .i64 24] 3))
    have HLT := Lib.hid (show w.heap.size < (w.alloc (.cells #[.int .i64 tag, .int .i64 23, .int .i64 24] 3)).heap.size by simp)
    generalize w.alloc (.cells #[.int .i64 tag, .int .i64 23, .int .i64 24] 3) = W at HRW HBA HLT ⊢
    go_loopw [32] (fun i wr => ∃ k : Nat, k ≤ 3 ∧ i = .int .i64 (k : Int) ∧ Below W.heap.size W wr) (fun i _ => 3 - (intOf i).toNat)
    case atStart => exact ⟨0, by omega, rfl, Below.refl _ _⟩
    case round =>
      obtain ⟨j, hj, rfl, hb⟩ := hrel
      have HB := Lib.hid hb
      have HTR := Lib.hid (HT.out.old (HBA.out.trans (hb.mono HBA.out.size)))
      by_cases hlt : j < 3
      · have e1 : decide ((j : Int) < 3) = true := decide_eq_true (by omega)
        have e2 : decide (j < 3) = true := decide_eq_true hlt
        have hc := (hb.cell (p := ⟨w.heap.size, j, none⟩) HLT.out).trans (HRW.out j hlt)
        generalize [tag, 23, 24].getD j 0 = x at hc
        clear hb
        go_wp2_with (first
          | (go_at_call 9; (with_reducible refine (HN.out _).mono ?_); rintro E w1 ⟨x1, hx1, rfl, hb1⟩; have HB1 := Lib.hid (below_next HB.out hb1); clear hb1 hx1)
          | (go_at_call 15; (with_reducible refine (HX.out _ _ _).mono ?_); rintro E w2 ⟨X, rfl, hb2⟩; have HB2 := Lib.hid (below_next HB1.out hb2); clear hb2))
        have HRX := Lib.hid (show ∀ k, k < 2 → (w2.alloc (.cells #[.string c, .string X] 9)).cell? ⟨w2.heap.size, k, none⟩ = some (.string ([c, X].getD k ⟨#[]⟩)) from fun k hk => row_strs w2 [c, X] k hk)
        have HB3 := Lib.hid (below_next HB2.out (belowNew w2 (.cells #[.string c, .string X] 9)))
        have HL3 := Lib.hid (show w2.heap.size < (w2.alloc (.cells #[.string c, .string X] 9)).heap.size by simp)
        generalize w2.alloc (.cells #[.string c, .string X] 9) = W3 at HRX HB3 HL3 ⊢
        clear hc e1 e2
        go_loopw [48] (fun i wr => ∃ k : Nat, k ≤ 2 ∧ i = .int .i64 (k : Int) ∧ Below W3.heap.size W3 wr) (fun i _ => 2 - (intOf i).toNat)
        case atStart => exact ⟨0, by omega, rfl, Below.refl _ _⟩
        case round =>
          obtain ⟨i, hi, rfl, hbi⟩ := hrel
          have HBI := Lib.hid hbi
          have HBT := Lib.hid (HB3.out.trans (hbi.mono HB3.out.size))
          have HTI := Lib.hid (HT.out.old (HBA.out.trans (HBT.out.mono HBA.out.size)))
          by_cases hlti : i < 2
          · have e1 : decide ((i : Int) < 2) = true := decide_eq_true (by omega)
            have e2 : decide (i < 2) = true := decide_eq_true hlti
            have hc := (hbi.cell (p := ⟨w2.heap.size, i, none⟩) HL3.out).trans (HRX.out i hlti)
            generalize [c, X].getD i ⟨#[]⟩ = v at hc
            obtain ⟨p, q, hp1, hp2⟩ := both_dec x v
            have HP1 := Lib.hid hp1
            have HP2 := Lib.hid hp2
            clear hbi hp1 hp2
            go_wp2_with (first
              | (go_at_call 16; (with_reducible refine (HP1.out _ HTI.out).mono ?_); rintro E w6 ⟨rfl, hb6⟩; have HB6 := Lib.hid (below_next HBI.out hb6); clear hb6)
              | (go_at_call 17; (with_reducible refine (HP2.out _).mono ?_); rintro E w7 ⟨rfl, hb7⟩; have HB7 := Lib.hid (below_next HB6.out hb7); clear hb7))
            go_roundw
            case rel => exact ⟨i + 1, by omega, by go_num, HB7.out⟩
            case measure => simp [intOf]; omega
          · obtain rfl : i = 2 := by omega
            have e1 : decide (((2 : Nat) : Int) < 2) = false := by decide
            clear hbi
            go_wp2_with fail
            go_roundw
            case rel => exact ⟨j + 1, by omega, by go_num, HBT.out⟩
            case measure => simp [intOf]; omega
      · obtain rfl : j = 3 := by omega
        have e1 : decide (((3 : Nat) : Int) < 3) = false := by decide
        clear hb
        go_wp2_with (go_at_call 13; (with_reducible refine (awake_any _ HTR.out).mono ?_); rintro E w5 ⟨rfl, hb5⟩; have HB5 := Lib.hid (below_next HB.out hb5); clear hb5)
        go_ret
        exact ⟨rfl, HBA.out.trans (HB5.out.mono HBA.out.size)⟩
end Go.Proofs.YtkgdkaopbnodpaaDoor
