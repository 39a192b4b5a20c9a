/-
  The walk of the law TlvPrefix: for every string and every number it returns true, and leaves all that was there as it was.
-/
import Derived.Test.YtgpockpfefjjkaaTawake
import Derived.Test.YtgpockpfefjjkaaTcanon
namespace Go.Proofs.Ytgpockpfefjjkaa
open Go.RowKit

theorem oneVal_err (b : ByteArray) : ∃ (t : Nat) (c r : ByteArray), oneVal b = .tuple #[.agg #[.int .i64 ((t : Nat) : Int), .string c, .string r], .int .i64 ((oneErr b : Nat) : Int)] := by
  by_cases h : oneErr b = 0
  · exact ⟨_, _, _, by rw [oneVal_good h, h]; rfl⟩
  · exact ⟨0, _, _, oneVal_bad h⟩

set_option maxRecDepth 100000 in
set_option maxHeartbeats 1000000 in
theorem prefix_far (s : ByteArray) (k : Nat) (w : World) (h : s.size = 0 ∨ 600 < s.size) :
    Calls Try.prog 9 #[.string s, .int .u16 (k : Nat)] w fun e w' => e = .returned (.bool true) ∧ Below w.heap.size w w' := by
  by_cases h1 : s.size = 0
  · have hd : ((s.size : Int) == 0) = true := beq_iff_eq.2 (by omega)
    clear h h1
    go_enter Try.func9, Try.ntmps9
    go_wp2_with (go_at_call 11; (with_reducible refine (awake_any _).mono ?_); rintro e w1 ⟨rfl, hb1⟩; have HB1 := Lib.hid hb1; clear hb1)
    go_ret
    exact ⟨rfl, HB1.out⟩
  · have hd : ((s.size : Int) == 0) = false := beq_eq_false_iff_ne.2 (by omega)
    have hd2 : decide ((600 : Int) < (s.size : Int)) = true := by simp; omega
    clear h h1
    go_enter Try.func9, Try.ntmps9
    go_wp2_with (go_at_call 11; (with_reducible refine (awake_any _).mono ?_); rintro e w1 ⟨rfl, hb1⟩; have HB1 := Lib.hid hb1; clear hb1)
    go_ret
    exact ⟨rfl, HB1.out⟩

set_option maxRecDepth 100000 in
set_option maxHeartbeats 1000000 in
theorem prefix_near (s : ByteArray) (k : Nat) (w : World) (h0 : s.size ≠ 0) (h1 : s.size ≤ 600) (hk : k < 65536) :
    Calls Try.prog 9 #[.string s, .int .u16 (k : Nat)] w fun e w' => e = .returned (.bool true) ∧ Below w.heap.size w w' := by
  have hd : ((s.size : Int) == 0) = false := beq_eq_false_iff_ne.2 (by omega)
  have hd2 : decide ((600 : Int) < (s.size : Int)) = false := by simp; omega
  obtain ⟨j, hj⟩ : ∃ j, j = k % s.size := ⟨_, rfl⟩
  have hjl : j < s.size := by rw [hj]; exact Nat.mod_lt _ (by omega)
  have hm : ((k : Int) % (s.size : Int)) = (j : Int) := by rw [hj]; rfl
  have hp : 0 < s.size := by omega
  have HS1 := Lib.hid (show s.size ≤ 1099511627776 by omega)
  have HS2 := Lib.hid (show (s.extract 0 j).size ≤ 1099511627776 by rw [ByteArray.size_extract]; omega)
  have HZ := Lib.hid (Below.refl w.heap.size w)
  have hN := fun h => no_prefix hjl h
  obtain ⟨t, c, r, hV⟩ := oneVal_err s
  obtain ⟨t2, c2, r2, hV2⟩ := oneVal_err (s.extract 0 j)
  generalize oneErr s = x at hN hV
  generalize oneErr (s.extract 0 j) = x2 at hN hV2
  have HV := Lib.hid hV
  have HV2 := Lib.hid hV2
  clear hj h0 hV hV2
  by_cases hx : x = 0
  · have hx2 : ((x2 : Int) != 0) = true := by have := hN hx; simp; omega
    subst hx
    clear hN
    go_enter Try.func9, Try.ntmps9
    go_wp2_with (first | (go_at_call 20; (with_reducible refine (one_any s _ HS1.out).mono ?_); rw [HV.out]; rintro e w1 ⟨rfl, hb1⟩; have HZ := Lib.hid (below_next HZ.out hb1); clear hb1) | (go_at_call 20; (with_reducible refine (one_any (s.extract 0 j) _ HS2.out).mono ?_); rw [HV2.out]; rintro e w1 ⟨rfl, hb1⟩; have HZ := Lib.hid (below_next (below_new HZ.out _) hb1); clear hb1) | (go_at_call 11; (with_reducible refine (awake_any _).mono ?_); rintro e w1 ⟨rfl, hb1⟩; have HZ := Lib.hid (below_next (below_new HZ.out _) hb1); clear hb1))
    go_ret
    exact ⟨rfl, HZ.out⟩
  · have hx2 : ((x : Int) != 0) = true := by simp; omega
    clear hN hx
    go_enter Try.func9, Try.ntmps9
    go_wp2_with (first | (go_at_call 20; (with_reducible refine (one_any s _ HS1.out).mono ?_); rw [HV.out]; rintro e w1 ⟨rfl, hb1⟩; have HZ := Lib.hid (below_next HZ.out hb1); clear hb1) | (go_at_call 20; (with_reducible refine (one_any (s.extract 0 j) _ HS2.out).mono ?_); rw [HV2.out]; rintro e w1 ⟨rfl, hb1⟩; have HZ := Lib.hid (below_next (below_new HZ.out _) hb1); clear hb1) | (go_at_call 11; (with_reducible refine (awake_any _).mono ?_); rintro e w1 ⟨rfl, hb1⟩; have HZ := Lib.hid (below_next (below_new HZ.out _) hb1); clear hb1))
    go_ret
    exact ⟨rfl, HZ.out⟩
theorem prefix_law (s : ByteArray) (k : Nat) (w : World) (hk : k < 65536) :
    Calls Try.prog 9 #[.string s, .int .u16 (k : Nat)] w fun e w' => e = .returned (.bool true) ∧ Below w.heap.size w w' := by
  by_cases h : s.size = 0 ∨ 600 < s.size
  · exact prefix_far s k w h
  · exact prefix_near s k w (by omega) (by omega) hk
end Go.Proofs.Ytgpockpfefjjkaa
