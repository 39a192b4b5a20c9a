/-
  The walk of the law DateCivil: for all numbers of its parameters' types it returns true, and leaves all that was there as it was.
-/
import Derived.Test.YtkgdkaopbnodpaaDoorDnear
namespace Go.Proofs.YtkgdkaopbnodpaaDoor
open Go.RowKit

/-- A number is the time of a date, or none. -/
theorem time_or (v : Int) : (∃ x, Ok x ∧ v = ((secs x : Nat) : Int)) ∨ (v < 0 ∨ 254033452799 < v) := by
  by_cases h : 0 ≤ v ∧ v ≤ 254033452799
  · obtain ⟨x, hx, e⟩ := civ_ex v.toNat (by omega)
    exact .inl ⟨x, hx, by omega⟩
  · exact .inr (by omega)

set_option maxRecDepth 100000 in
set_option maxHeartbeats 4000000 in
theorem civlaw (t : Int) (k : Nat) (d : Int) (w : World) (hT : Mon w) (ht : I64 t) (hk : k < 65536) (hd : -128 ≤ d ∧ d ≤ 127) :
    Calls Tryd.prog 3 #[.int .i64 t, .int .u16 (k : Int), .int .i8 d] w fun E w' => E = .returned (.bool true) ∧ Below w.heap.size w w' := by
  have HN := Lib.hid (fun w => near_any t k d w ht hk hd)
  have HT := Lib.hid hT
  obtain ⟨hd1, hd2⟩ := hd
  clear hT hk
  go_enter Tryd.func3, Tryd.ntmps3
  go_wp2_with (go_at_call 9; (with_reducible refine (HN.out _).mono ?_); rintro E w1 ⟨x, hx, rfl, hb1⟩; have HB1 := Lib.hid hb1; clear hb1)
  have HRW := Lib.hid (show ∀ k, k < 3 → (w1.alloc (.cells #[.int .i64 t, .int .i64 x, .int .i64 (254033452799 + d)] 3)).cell? ⟨w1.heap.size, k, none⟩ = some (.int .i64 ([t, x, 254033452799 + d].getD k 0)) from fun k hk => row_ints w1 [t, x, 254033452799 + d] k hk)
  have HBA := Lib.hid (below_next HB1.out (belowNew w1 (.cells #[.int .i64 t, .int .i64 x, .int .i64 (254033452799 + d)] 3)))
  have HLT := Lib.hid (show w1.heap.size < (w1.alloc (.cells #[.int .i64 t, .int .i64 x, .int .i64 (254033452799 + d)] 3)).heap.size by simp)
  generalize w1.alloc (.cells #[.int .i64 t, .int .i64 x, .int .i64 (254033452799 + d)] 3) = W at HRW HBA HLT ⊢
  go_loopw [25] (fun i wr => ∃ k : Nat, k ≤ 3 ∧ i = .int .i64 (k : Int) ∧ Below W.heap.size W wr) (fun i _ => 3 - (intOf i).toNat)
  case atStart => exact ⟨0, by omega, rfl, Below.refl _ _⟩
  case round =>
    obtain ⟨j, hj, rfl, hb⟩ := hrel
    have HB := Lib.hid hb
    have HTR := Lib.hid (HT.out.old (HBA.out.trans (hb.mono HBA.out.size)))
    by_cases hlt : j < 3
    · have e1 : decide ((j : Int) < 3) = true := decide_eq_true (by omega)
      have e2 : decide (j < 3) = true := decide_eq_true hlt
      have hc := (hb.cell (p := ⟨w1.heap.size, j, none⟩) HLT.out).trans (HRW.out j hlt)
      generalize [t, x, 254033452799 + d].getD j 0 = v at hc
      clear hb
      rcases time_or v with ⟨z, hz, rfl⟩ | hv
      · have HC := Lib.hid (civ_yes hz wr HTR.out)
        have HR := Lib.hid (fun w => rciv_yes hz w)
        have HS := Lib.hid (fun w hT => secs_yes hz w hT)
        generalize secs z = T at HC HR HS hc
        clear hz
        go_wp2_with (first
          | (go_at_call 10; (with_reducible refine HC.out.mono ?_); rintro E w2 ⟨rfl, hb2⟩; have HB2 := Lib.hid (below_next HB.out hb2); have HN2 := Lib.hid (dtNew w2 (dtc z.y z.m z.d z.h z.n z.s) 27); have HT2 := Lib.hid ((HTR.out.old hb2).alloc (.cells (dtc z.y z.m z.d z.h z.n z.s) 27)); clear hb2)
          | (go_at_call 11; (with_reducible refine (HR.out _).mono ?_); rintro E w3 ⟨rfl, hb3⟩; obtain ⟨⟨c0, c1, c2, c3, c4, c5⟩, _, hlt3⟩ := dt_facts ((hb3.block w2.heap.size (by simp)).trans HN2.out); have HB3 := Lib.hid (below_next (below_next HB2.out (belowNew w2 (.cells (dtc z.y z.m z.d z.h z.n z.s) 27))) hb3); have HT3 := Lib.hid ((HT2.out.old hb3).alloc (.cells (dtc z.y z.m z.d z.h z.n z.s) 27)); clear hb3)
          | (go_at_call 12; (with_reducible refine (HS.out _ HT3.out).mono ?_); rintro E w4 ⟨rfl, hb4⟩; have HB4 := Lib.hid (below_next (below_next HB3.out (belowNew w3 (.cells (dtc z.y z.m z.d z.h z.n z.s) 27))) hb4); clear hb4))
        go_roundw
        case rel => exact ⟨j + 1, by omega, by go_num, HB4.out⟩
        case measure => simp [intOf]; omega
      · have HC := Lib.hid (fun w => civ_no hv w)
        have HR := Lib.hid (fun w => rciv_no hv w)
        clear hv
        go_wp2_with (first
          | (go_at_call 10; (with_reducible refine (HC.out _).mono ?_); rintro E w2 ⟨rfl, hb2⟩; have HB2 := Lib.hid (below_next HB.out hb2); have HN2 := Lib.hid (dtNew w2 (dtc 0 0 0 0 0 0) 27); clear hb2)
          | (go_at_call 11; (with_reducible refine (HR.out _).mono ?_); rintro E w3 ⟨rfl, hb3⟩; obtain ⟨⟨c0, c1, c2, c3, c4, c5⟩, _, hlt3⟩ := dt_facts ((hb3.block w2.heap.size (by simp)).trans HN2.out); have HB3 := Lib.hid (below_next (below_next (below_next HB2.out (belowNew w2 (.cells (dtc 0 0 0 0 0 0) 27))) hb3) (belowNew w3 (.cells (dtc 0 0 0 0 0 0) 27))); clear hb3))
        go_roundw
        case rel => exact ⟨j + 1, by omega, by go_num, HB3.out⟩
        case measure => simp [intOf]; omega
    · obtain rfl : j = 3 := by omega
      have e1 : decide (((3 : Nat) : Int) < 3) = false := by decide
      clear hb
      go_wp2_with (go_at_call 13; (with_reducible refine (awake_any _ HTR.out).mono ?_); rintro E w5 ⟨rfl, hb5⟩; have HB5 := Lib.hid (below_next HB.out hb5); clear hb5)
      go_ret
      exact ⟨rfl, HBA.out.trans (HB5.out.mono HBA.out.size)⟩
end Go.Proofs.YtkgdkaopbnodpaaDoor
