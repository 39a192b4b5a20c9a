/-
  The walk of the law DateOrder: for all numbers of its parameters' types it returns true, and leaves all that was there as it was.
-/
import Derived.Test.YtkgdkaopbnodpaaDoorDcivlaw
import Derived.Test.YtkgdkaopbnodpaaDoorDordpure
namespace Go.Proofs.YtkgdkaopbnodpaaDoor
open Go.RowKit

set_option maxRecDepth 100000 in
set_option maxHeartbeats 4000000 in
theorem ordlaw (t u : Int) (k j : Nat) (d : Int) (w : World) (hT : Mon w) (ht : I64 t) (hu : I64 u) (hk : k < 65536) (hj : j < 65536) (hd : -128 ≤ d ∧ d ≤ 127) :
    Calls Tryd.prog 8 #[.int .i64 t, .int .i64 u, .int .u16 (k : Int), .int .u16 (j : Int), .int .i8 d] w fun E w' => E = .returned (.bool true) ∧ Below w.heap.size w w' := by
  have HN1 := Lib.hid (fun w => near_any t k d w ht hk hd)
  have HN2 := Lib.hid (fun w => near_any u j d w hu hj hd)
  have HT := Lib.hid hT
  clear hT hk hj hd ht hu
  go_enter Tryd.func8, Tryd.ntmps8
  go_upto_region 2 with (first
    | (go_at_call 9; (with_reducible refine (HN1.out _).mono ?_); rintro E w1 ⟨x, hx, rfl, hb1⟩; have HB1 := Lib.hid hb1; clear hb1)
    | (go_at_call 9; (with_reducible refine (HN2.out _).mono ?_); rintro E w2 ⟨y, hy, rfl, hb2⟩; have HB2 := Lib.hid (below_next HB1.out hb2); clear hb2))
  have HT2 := Lib.hid (HT.out.old HB2.out)
  clear hx hy
  rcases time_or x with ⟨p, hp, rfl⟩ | hx
  · rcases time_or y with ⟨q, hq, rfl⟩ | hy
    · have HC1 := Lib.hid (fun w hT => fmt_yes hp w hT)
      have HC2 := Lib.hid (fun w hT => fmt_yes hq w hT)
      have f2 : Op.bytesLess (strOf (txtT p)).toList (strOf (txtT q)).toList = decide (secs p < secs q) := by
        rw [toList_eq_list, toList_eq_list, strOf_list, strOf_list]
        exact text_order hp hq
      have f4 : ((strOf (txtT p)).toList == (strOf (txtT q)).toList) = decide (secs p = secs q) := by
        rw [toList_eq_list, toList_eq_list, strOf_list, strOf_list]
        by_cases e : secs p = secs q
        · rw [decide_eq_true e, secs_inj hp hq e]; simp
        · rw [decide_eq_false e]
          exact beq_eq_false_iff_ne.2 fun h => e (by rw [txtT_inj hp hq h])
      generalize strOf (txtT p) = A at HC1 f2 f4
      generalize strOf (txtT q) = B at HC2 f2 f4
      generalize secs p = T at HC1 f2 f4 ⊢
      generalize secs q = U at HC2 f2 f4 ⊢
      obtain ⟨L, f1⟩ : ∃ L, decide (T < U) = L := ⟨_, rfl⟩
      obtain ⟨Q, f3⟩ : ∃ Q, decide (T = U) = Q := ⟨_, rfl⟩
      rw [f1] at f2
      rw [f3] at f4
      have f1i : decide ((T : Int) < (U : Int)) = L := by rw [← f1]; simp
      have f3i : ((T : Int) == (U : Int)) = Q := by
        rw [← f3]
        by_cases e : T = U
        · rw [decide_eq_true e, e]; simp
        · rw [decide_eq_false e]; exact beq_eq_false_iff_ne.2 (by omega)
      have f3n : (T == U) = Q := by
        rw [← f3]
        by_cases e : T = U
        · rw [decide_eq_true e, e]; simp
        · rw [decide_eq_false e]; exact beq_eq_false_iff_ne.2 e
      clear hp hq
      cases L <;> cases Q
      all_goals
        go_wp2_with (first
          | (go_at_call 20; (with_reducible refine (HC1.out _ HT2.out).mono ?_); rintro E w3 ⟨rfl, hb3⟩; have HB3 := Lib.hid (below_next HB2.out hb3); have HT3 := Lib.hid (HT2.out.old hb3); clear hb3)
          | (go_at_call 20; (with_reducible refine (HC2.out _ HT3.out).mono ?_); rintro E w4 ⟨rfl, hb4⟩; have HB4 := Lib.hid (below_next HB3.out hb4); have HT4 := Lib.hid (HT3.out.old hb4); clear hb4)
          | (go_at_call 13; (with_reducible refine (awake_any _ HT4.out).mono ?_); rintro E w5 ⟨rfl, hb5⟩; have HB5 := Lib.hid (below_next HB4.out hb5); clear hb5))
        go_ret
        exact ⟨rfl, HB5.out⟩
    · have HC1 := Lib.hid (fun w hT => fmt_yes hp w hT)
      have HC2 := Lib.hid (fun w => fmt_no hy w)
      have he := nonempty_list (c := strOf (txtT p)) (by rw [strOf_size, txtT_len]; omega)
      generalize strOf (txtT p) = A at HC1 he
      generalize secs p = T at HC1 ⊢
      clear hp hy
      go_wp2_with (first
        | (go_at_call 20; (with_reducible refine (HC1.out _ HT2.out).mono ?_); rintro E w3 ⟨rfl, hb3⟩; have HB3 := Lib.hid (below_next HB2.out hb3); have HT3 := Lib.hid (HT2.out.old hb3); clear hb3)
        | (go_at_call 20; (with_reducible refine (HC2.out _).mono ?_); rintro E w4 ⟨rfl, hb4⟩; have HB4 := Lib.hid (below_next HB3.out hb4); have HT4 := Lib.hid (HT3.out.old hb4); clear hb4)
        | (go_at_call 13; (with_reducible refine (awake_any _ HT4.out).mono ?_); rintro E w5 ⟨rfl, hb5⟩; have HB5 := Lib.hid (below_next HB4.out hb5); clear hb5))
      go_ret
      exact ⟨rfl, HB5.out⟩
  · have HC1 := Lib.hid (fun w => fmt_no hx w)
    rcases time_or y with ⟨q, hq, rfl⟩ | hy
    · have HC2 := Lib.hid (fun w hT => fmt_yes hq w hT)
      generalize strOf (txtT q) = B at HC2
      generalize secs q = U at HC2 ⊢
      clear hq hx
      go_wp2_with (first
        | (go_at_call 20; (with_reducible refine (HC1.out _).mono ?_); rintro E w3 ⟨rfl, hb3⟩; have HB3 := Lib.hid (below_next HB2.out hb3); have HT3 := Lib.hid (HT2.out.old hb3); clear hb3)
        | (go_at_call 20; (with_reducible refine (HC2.out _ HT3.out).mono ?_); rintro E w4 ⟨rfl, hb4⟩; have HB4 := Lib.hid (below_next HB3.out hb4); have HT4 := Lib.hid (HT3.out.old hb4); clear hb4)
        | (go_at_call 13; (with_reducible refine (awake_any _ HT4.out).mono ?_); rintro E w5 ⟨rfl, hb5⟩; have HB5 := Lib.hid (below_next HB4.out hb5); clear hb5))
      go_ret
      exact ⟨rfl, HB5.out⟩
    · have HC2 := Lib.hid (fun w => fmt_no hy w)
      clear hx hy
      go_wp2_with (first
        | (go_at_call 20; (with_reducible refine (HC1.out _).mono ?_); rintro E w3 ⟨rfl, hb3⟩; have HB3 := Lib.hid (below_next HB2.out hb3); have HT3 := Lib.hid (HT2.out.old hb3); clear hb3)
        | (go_at_call 20; (with_reducible refine (HC2.out _).mono ?_); rintro E w4 ⟨rfl, hb4⟩; have HB4 := Lib.hid (below_next HB3.out hb4); have HT4 := Lib.hid (HT3.out.old hb4); clear hb4)
        | (go_at_call 13; (with_reducible refine (awake_any _ HT4.out).mono ?_); rintro E w5 ⟨rfl, hb5⟩; have HB5 := Lib.hid (below_next HB4.out hb5); clear hb5))
      go_ret
      exact ⟨rfl, HB5.out⟩
end Go.Proofs.YtkgdkaopbnodpaaDoor
