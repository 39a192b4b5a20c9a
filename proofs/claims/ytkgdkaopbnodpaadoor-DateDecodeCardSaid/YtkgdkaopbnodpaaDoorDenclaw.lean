/-
  The walk of the law DateEncode: for all numbers of its parameters' types it returns true, and leaves all that was there as it was.
-/
import Derived.Test.YtkgdkaopbnodpaaDoorDcivlaw
namespace Go.Proofs.YtkgdkaopbnodpaaDoor
open Go.RowKit

/-- The parts of a time's element. -/
theorem enc_parts {z : Dt} (h : Ok z) : ∃ (A c : ByteArray) (tag : Nat), strOf (encT z) = A ∧ 2 ≤ A.size ∧ A.size ≤ 20 ∧ u8at A 0 = tag ∧ A.extract 2 A.size = c ∧ tag < 256 ∧ Con (tag : Int) c.data.toList z := by
  unfold encT
  by_cases hy : z.y ≤ 2049
  · rw [if_pos hy]
    refine ⟨_, strOf (txtU z), 23, rfl, by rw [strOf_size]; simp, by rw [strOf_size]; simp [txtU_len], rfl, ?_, by omega, h, .inl ⟨rfl, hy, rfl⟩⟩
    apply list_inj
    rw [sub_ext]
    rfl
  · rw [if_neg hy]
    refine ⟨_, strOf (txtL z), 24, rfl, by rw [strOf_size]; simp, by rw [strOf_size]; simp [txtL_len], rfl, ?_, by omega, h, .inr ⟨rfl, by omega, rfl⟩⟩
    apply list_inj
    rw [sub_ext]
    rfl

set_option maxRecDepth 100000 in
set_option maxHeartbeats 4000000 in
theorem enclaw (t : Int) (k : Nat) (d : Int) (w : World) (hT : Mon w) (ht : I64 t) (hk : k < 65536) (hd : -128 ≤ d ∧ d ≤ 127) :
    Calls Tryd.prog 6 #[.int .i64 t, .int .u16 (k : Int), .int .i8 d] w fun E w' => E = .returned (.bool true) ∧ Below w.heap.size w w' := by
  have HN := Lib.hid (fun w => near_any t k d w ht hk hd)
  have HT := Lib.hid hT
  obtain ⟨hd1, hd2⟩ := hd
  clear hT hk
  go_enter Tryd.func6, Tryd.ntmps6
  go_wp2_with (go_at_call 9; (with_reducible refine (HN.out _).mono ?_); rintro E w1 ⟨x, hx, rfl, hb1⟩; have HB1 := Lib.hid hb1; clear hb1)
  have HRW := Lib.hid (show ∀ k, k < 3 → (w1.alloc (.cells #[.int .i64 t, .int .i64 x, .int .i64 (3155760000 + d)] 3)).cell? ⟨w1.heap.size, k, none⟩ = some (.int .i64 ([t, x, 3155760000 + d].getD k 0)) from fun k hk => row_ints w1 [t, x, 3155760000 + d] k hk)
  have HBA := Lib.hid (below_next HB1.out (belowNew w1 (.cells #[.int .i64 t, .int .i64 x, .int .i64 (3155760000 + d)] 3)))
  have HLT := Lib.hid (show w1.heap.size < (w1.alloc (.cells #[.int .i64 t, .int .i64 x, .int .i64 (3155760000 + d)] 3)).heap.size by simp)
  generalize w1.alloc (.cells #[.int .i64 t, .int .i64 x, .int .i64 (3155760000 + d)] 3) = W at HRW HBA HLT ⊢
  go_loopw [25] (fun i wr => ∃ k : Nat, k ≤ 3 ∧ i = .int .i64 (k : Int) ∧ Below W.heap.size W wr) (fun i _ => 3 - (intOf i).toNat)
  case atStart => exact ⟨0, by omega, rfl, Below.refl _ _⟩
  case round =>
    obtain ⟨j, hj, rfl, hb⟩ := hrel
    have HB := Lib.hid hb
    have HTR := Lib.hid (HT.out.old (HBA.out.trans (hb.mono HBA.out.size)))
    by_cases hlt : j < 3
    · have e1 : decide ((j : Int) < 3) = true := decide_eq_true (by omega)
      have e2 : decide (j < 3) = true := decide_eq_true hlt
      have hc := (hb.cell (p := ⟨w1.heap.size, j, none⟩) HLT.out).trans (HRW.out j hlt)
      generalize [t, x, 3155760000 + d].getD j 0 = v at hc
      clear hb
      rcases time_or v with ⟨z, hz, rfl⟩ | hv
      · have HC := Lib.hid (enc_yes hz wr HTR.out)
        have HR := Lib.hid (fun w => renc_yes hz w)
        obtain ⟨A, c, tag, hA, hs2, hs20, htag, hcon, htb, hCon⟩ := enc_parts hz
        rw [hA] at HC HR
        have HD := Lib.hid (fun w hT => dec_yes hCon w hT)
        have hi := fun w => run_index_u8 (P := Tryd.prog) Tryd.underlying9 A 0 (by omega) 0 rfl w
        rw [htag] at hi
        have hsl : ∀ w, (Instr.slice 9 (.string A) (some (.int .i64 2)) none none).run Tryd.prog w = .ok (.string c) w := fun w => by
          have := run_slice_string_from_if (P := Tryd.prog) w 9 A .i64 2 Tryd.underlying9
          rw [this, if_pos ⟨by omega, by omega⟩, ← hcon]
          congr 3
        have g1 : (A.toList != A.toList) = false := by simp
        have g2 : decide ((A.size : Int) < 2) = false := decide_eq_false (by omega)
        have g3 : decide (A.size < 2) = false := decide_eq_false (by omega)
        generalize secs z = T at HC HR HD hc
        clear hz hA htag hcon hCon
        go_wp2_with (first
          | (go_at_call 18; (with_reducible refine HC.out.mono ?_); rintro E w2 ⟨rfl, hb2⟩; have HB2 := Lib.hid (below_next HB.out hb2); have HT2 := Lib.hid (HTR.out.old hb2); clear hb2)
          | (go_at_call 19; (with_reducible refine (HR.out _).mono ?_); rintro E w3 ⟨rfl, hb3⟩; have HB3 := Lib.hid (below_next HB2.out hb3); have HT3 := Lib.hid (HT2.out.old hb3); clear hb3))
        have Q := Lib.hid (show ∀ dd os, Calls Tryd.prog 16 #[.int .i64 (tag : Int), .string c] (Sort.grow (redrawn w3 dd) os) fun E w'' => E = .returned (.tuple #[.int .i64 (T : Int), .int .i64 0]) ∧ ∃ p : Regrown, w'' = Sort.grow (redrawn w3 p.d) p.os from fun dd os => Calls.regrown_of (HD.out _ (HT3.out.old (below_regrown w3 dd os))))
        clear g1 g2 g3
        refine wp_region_quiet_below (by kernel_rfl) (by kernel_rfl) ?_
        repeat (go_big_quiet_step (with_reducible exact Q.out _ _))
        refine wpQuiet_nil ?_
        intro _ hw'
        obtain ⟨⟨dq, osq⟩, hw''⟩ := hw'
        subst hw''
        have HB4 := Lib.hid (below_next HB3.out (below_regrown w3 dq osq))
        go_wp2_with fail
        go_roundw
        case rel => exact ⟨j + 1, by omega, by go_num, HB4.out⟩
        case measure => simp [intOf]; omega
      · have HC := Lib.hid (fun w => enc_no hv w)
        have HR := Lib.hid (fun w => renc_no hv w)
        clear hv
        go_wp2_with (first
          | (go_at_call 18; (with_reducible refine (HC.out _).mono ?_); rintro E w2 ⟨rfl, hb2⟩; have HB2 := Lib.hid (below_next HB.out hb2); clear hb2)
          | (go_at_call 19; (with_reducible refine (HR.out _).mono ?_); rintro E w3 ⟨rfl, hb3⟩; have HB3 := Lib.hid (below_next HB2.out hb3); clear hb3))
        go_roundw
        case rel => exact ⟨j + 1, by omega, by go_num, HB3.out⟩
        case measure => simp [intOf]; omega
    · obtain rfl : j = 3 := by omega
      have e1 : decide (((3 : Nat) : Int) < 3) = false := by decide
      clear hb
      go_wp2_with (go_at_call 13; (with_reducible refine (awake_any _ HTR.out).mono ?_); rintro E w5 ⟨rfl, hb5⟩; have HB5 := Lib.hid (below_next HB.out hb5); clear hb5)
      go_ret
      exact ⟨rfl, HBA.out.trans (HB5.out.mono HBA.out.size)⟩
end Go.Proofs.YtkgdkaopbnodpaaDoor
