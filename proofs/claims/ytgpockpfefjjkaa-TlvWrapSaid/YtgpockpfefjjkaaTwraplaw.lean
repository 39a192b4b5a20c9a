/-
  The walk of the law TlvWrap: for every number and every slice of strings it returns true, and leaves all that was there as it was.
-/
import Derived.Test.YtgpockpfefjjkaaTrwrap
import Derived.Test.YtgpockpfefjjkaaTfew
namespace Go.Proofs.Ytgpockpfefjjkaa
open Go.RowKit

theorem int_row (W : World) (a b c : Int) (k : Nat) (hk : k < 3) : (W.alloc (.cells #[.int .i64 a, .int .i64 b, .int .i64 c] 3)).cell? ⟨W.heap.size, k, none⟩ = some (.int .i64 ([a, b, c].getD k 0)) := by
  rw [Lib.cell_of_heap (heap_alloc_new W _)]
  rcases (by omega : k = 0 ∨ k = 1 ∨ k = 2) with rfl | rfl | rfl <;> rfl

theorem wrapVal_form (T : Int) (c : List UInt8) : ∃ (s : ByteArray) (x : Nat), wrapVal T c = .tuple #[.string s, .int .i64 ((x : Nat) : Int)] := ⟨_, _, rfl⟩

set_option maxRecDepth 100000 in
set_option maxHeartbeats 2000000 in
theorem wraplaw_core (T : Int) (v : Value) (ss : List ByteArray) (w : World) (hv : Reads w v ss) :
    Calls Try.prog 6 #[.int .i64 T, v] w fun e w' => e = .returned (.bool true) ∧ Below w.heap.size w w' := by
  have HV := Lib.hid hv
  obtain ⟨F, hF⟩ : ∃ F, F = fewB ss 20 400 := ⟨_, rfl⟩
  have HF := Lib.hid hF
  clear hv hF
  cases F with
  | false =>
    go_enter Try.func6, Try.ntmps6
    go_wp2_with (first | (go_at_call 18; (with_reducible refine (few_law v ss _ HV.out).mono ?_); rintro e w1 ⟨he, rfl⟩; obtain rfl : e = .returned (.bool false) := (by rw [he, HF.out])) | (go_at_call 11; (with_reducible refine (awake_any _).mono ?_); rintro e w1 ⟨rfl, hb1⟩; have HB1 := Lib.hid hb1; clear hb1))
    go_ret
    exact ⟨rfl, HB1.out⟩
  | true =>
    have hc := few_cat HF.out.symm
    have HN := Lib.hid (show ss.length < 4611686018427387904 by omega)
    have HC := Lib.hid (show (cat ss).length ≤ 1099511627776 by omega)
    clear hc
    go_enter Try.func6, Try.ntmps6
    go_wp2_with (go_at_call 18; (with_reducible refine (few_law v ss _ HV.out).mono ?_); rintro e w1 ⟨he, rfl⟩; obtain rfl : e = .returned (.bool true) := (by rw [he, HF.out]))
    obtain ⟨L, hL⟩ : ∃ L : List Int, L = [T, bits BinOp.and .i64 T 255, bits BinOp.and .i64 T 31] := ⟨_, rfl⟩
    have hcell : ∀ k, k < 3 → (w.alloc (.cells #[.int .i64 T, .int .i64 (bits BinOp.and .i64 T 255), .int .i64 (bits BinOp.and .i64 T 31)] 3)).cell? ⟨w.heap.size, k, none⟩ = some (.int .i64 (L.getD k 0)) := by
      intro k hk
      rw [hL]
      exact int_row w _ _ _ k hk
    have HCL := Lib.hid hcell
    have HBA := Lib.hid (belowNew w (.cells #[.int .i64 T, .int .i64 (bits BinOp.and .i64 T 255), .int .i64 (bits BinOp.and .i64 T 31)] 3))
    clear hL hcell he
    go_loopw [22] (fun i wr => ∃ k : Nat, k ≤ 3 ∧ i = .int .i64 k ∧ Below (w.heap.size + 1) (w.alloc (.cells #[.int .i64 T, .int .i64 (bits BinOp.and .i64 T 255), .int .i64 (bits BinOp.and .i64 T 31)] 3)) wr) (fun i _ => 3 - (intOf i).toNat)
    case atStart => exact ⟨0, by omega, rfl, Below.refl _ _⟩
    case round =>
      obtain ⟨k, hk, rfl, hb⟩ := hrel
      have HB := Lib.hid hb
      have HWR := Lib.hid (HBA.out.trans (hb.mono (by omega)))
      clear hb
      by_cases hlt : k < 3
      · have hd3 : decide ((k : Int) < 3) = true := by simp; omega
        obtain ⟨x, hx⟩ : ∃ x, x = L.getD k 0 := ⟨_, rfl⟩
        have hcx : wr.cell? ⟨w.heap.size, k, none⟩ = some (.int .i64 x) := by
          rw [hx]; exact (HB.out.cell (p := ⟨w.heap.size, k, none⟩) (Nat.lt_succ_self _)).trans (HCL.out k hlt)
        obtain ⟨s, z, hV⟩ := wrapVal_form x (cat ss)
        have HVV := Lib.hid hV
        have HRD := Lib.hid (HV.out.old HWR.out)
        clear hx hV
        go_wp2_with (first | (go_at_call 13; (with_reducible refine (wrap_any x v ss _ HRD.out HN.out).mono ?_); rw [HVV.out]; rintro e w2 ⟨rfl, hb2⟩; have HRD2 := Lib.hid (HRD.out.old hb2); have HB2 := Lib.hid hb2; clear hb2) | (go_at_call 19; (with_reducible refine (rwrap_any x v ss _ HRD2.out HN.out HC.out).mono ?_); rw [HVV.out]; rintro e w3 ⟨rfl, hb3⟩; have HB3 := Lib.hid (below_next HB2.out hb3); clear hb3))
        go_roundw
        case rel => exact ⟨k + 1, by omega, by go_num, HB.out.trans (HB3.out.mono (by have := HB.out.size; simp at this; omega))⟩
        case measure => simp [intOf]; omega
      · have ek : k = 3 := by omega
        subst ek
        go_wp2_with (go_at_call 11; (with_reducible refine (awake_any _).mono ?_); rintro e w4 ⟨rfl, hb4⟩; have HB4 := Lib.hid hb4; clear hb4)
        go_ret
        exact ⟨rfl, below_next HWR.out HB4.out⟩
end Go.Proofs.Ytgpockpfefjjkaa
