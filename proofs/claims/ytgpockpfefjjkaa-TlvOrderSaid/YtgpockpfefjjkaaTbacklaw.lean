/-
  The walk of the law TlvBack: for every two strings and every byte it returns true, and leaves all that was there as it was.
-/
import Derived.Test.YtgpockpfefjjkaaTawake
import Derived.Test.YtgpockpfefjjkaaTcanon3
namespace Go.Proofs.Ytgpockpfefjjkaa
open Go.RowKit

theorem one_read (w : World) (g : Nat) (hg : g = w.heap.size) (x : ByteArray) : Reads (w.alloc (.cells #[.string x] 9)) (.slice (some ⟨g, 0, none⟩) 1 1) [x] := by
  subst hg
  refine ⟨_, 1, rfl, .inr ⟨w.heap.size, 0, rfl, fun i hi => ?_⟩⟩
  rw [Lib.cell_of_heap (heap_alloc_new w _)]
  have : i = 0 := by simp at hi; omega
  subst this
  rfl

set_option maxRecDepth 100000 in
set_option maxHeartbeats 1000000 in
theorem back_far (s : ByteArray) (t : Nat) (c : ByteArray) (w : World) (h : 600 < s.size ∨ 600 < c.size) :
    Calls Try.prog 8 #[.string s, .int .u8 (t : Nat), .string c] w fun e w' => e = .returned (.bool true) ∧ Below w.heap.size w w' := by
  by_cases h1 : 600 < s.size
  · have hd : decide ((600 : Int) < (s.size : Int)) = true := by simp; omega
    clear h h1
    go_enter Try.func8, Try.ntmps8
    go_wp2_with (go_at_call 11; (with_reducible refine (awake_any _).mono ?_); rintro e w1 ⟨rfl, hb1⟩; have HB1 := Lib.hid hb1; clear hb1)
    go_ret
    exact ⟨rfl, HB1.out⟩
  · have hd : decide ((600 : Int) < (s.size : Int)) = false := by simp; omega
    have hd2 : decide ((600 : Int) < (c.size : Int)) = true := by simp; omega
    clear h h1
    go_enter Try.func8, Try.ntmps8
    go_wp2_with (go_at_call 11; (with_reducible refine (awake_any _).mono ?_); rintro e w1 ⟨rfl, hb1⟩; have HB1 := Lib.hid hb1; clear hb1)
    go_ret
    exact ⟨rfl, HB1.out⟩

/-- What One answers, and what Wrap answers for the parts of what it accepts. -/
theorem back_one (s : ByteArray) : (∃ (t : Nat) (c r : ByteArray) (x : Nat), x ≠ 0 ∧ oneVal s = .tuple #[.agg #[.int .i64 ((t : Nat) : Int), .string c, .string r], .int .i64 ((x : Nat) : Int)]) ∨
    ∃ (t : Nat) (c : ByteArray), oneVal s = .tuple #[.agg #[.int .i64 ((t : Nat) : Int), .string c, .string s], .int .i64 0] ∧ wrapVal ((t : Nat) : Int) (cat [c]) = .tuple #[.string s, .int .i64 0] := by
  by_cases h : oneErr s = 0
  · obtain ⟨h1, h2⟩ := wrap_one h
    exact .inr ⟨_, _, by rw [oneVal_good h, h2], h1⟩
  · exact .inl ⟨0, _, _, _, h, oneVal_bad h⟩
/-- What Wrap answers for the law's parts, and what Read answers for what it has written. -/
theorem back_wrap (s : ByteArray) (t : Nat) (c : ByteArray) (ht : t < 256) (hc : c.size ≤ 600) :
    (t % 32 = 31 ∧ wrapVal ((t : Nat) : Int) (cat [c]) = .tuple #[.string ⟨#[]⟩, .int .i64 5]) ∨
    (t % 32 ≠ 31 ∧ ∃ u : ByteArray, u.size ≤ 700 ∧ wrapVal ((t : Nat) : Int) (cat [c]) = .tuple #[.string u, .int .i64 0] ∧ rdVal (u ++ s) = .tuple #[.agg #[.int .i64 ((t : Nat) : Int), .string c, .string u], .string s, .int .i64 0]) := by
  have hcat : cat [c] = c.data.toList := by simp [cat]
  have hcl : c.data.toList.length = c.size := rfl
  by_cases h : t % 32 = 31
  · left
    refine ⟨h, ?_⟩
    have e : wrapErr ((t : Nat) : Int) (cat [c]).length = 5 := if_pos (by omega)
    unfold wrapVal wrapStr
    rw [e]
    rfl
  · right
    have e : wrapErr ((t : Nat) : Int) (cat [c]).length = 0 := by
      unfold wrapErr
      rw [if_neg (by omega), if_neg (by rw [hcat, hcl]; omega)]
    refine ⟨h, ⟨(wrapL t (c.data.toList)).toArray⟩, ?_, ?_, ?_⟩
    · show (wrapL t c.data.toList).toArray.size ≤ 700
      unfold wrapL
      have := lsz_le c.data.toList.length
      simp only [List.size_toArray, List.length_cons, List.length_append, lenO_length]
      omega
    · unfold wrapVal wrapStr
      rw [e, if_pos rfl, hcat]
      rfl
    · have hr := read_wrap (b := ⟨(wrapL t c.data.toList).toArray⟩ ++ s) (d := s.data.toList) ht h (by rw [hcl]; omega) (by simp)
      rw [hr]

set_option maxRecDepth 100000 in
set_option maxHeartbeats 4000000 in
theorem back_near (s : ByteArray) (t : Nat) (c : ByteArray) (w : World) (h1 : s.size ≤ 600) (h2 : c.size ≤ 600) (ht : t < 256) :
    Calls Try.prog 8 #[.string s, .int .u8 (t : Nat), .string c] w fun e w' => e = .returned (.bool true) ∧ Below w.heap.size w w' := by
  have hd : decide ((600 : Int) < (s.size : Int)) = false := by simp; omega
  have hd2 : decide ((600 : Int) < (c.size : Int)) = false := by simp; omega
  have HS1 := Lib.hid (show s.size ≤ 1099511627776 by omega)
  have HZ := Lib.hid (Below.refl w.heap.size w)
  have hB := back_wrap s t c ht h2
  rcases back_one s with ⟨t1, c1, r1, x1, hx, hO⟩ | ⟨t1, c1, hO, hW⟩
  · have HO := Lib.hid hO
    have dx : ((x1 : Int) == 0) = false := beq_eq_false_iff_ne.2 (by omega)
    clear hO hx
    rcases hB with ⟨h31, hW2⟩ | ⟨h31, u, hu, hW2, hR⟩
    · have HW2 := Lib.hid hW2
      have dt : ((t : Int) % 32 == 31) = true := beq_iff_eq.2 (by omega)
      clear hW2 h31
      go_enter Try.func8, Try.ntmps8
      go_wp2_with (first | (go_at_call 20; (with_reducible refine (one_any s _ HS1.out).mono ?_); rw [HO.out]; rintro e w1 ⟨rfl, hb1⟩; have HZ := Lib.hid (below_next (w0 := w) (by first | exact HZ.out | exact below_new HZ.out _ | exact below_new (below_new HZ.out _) _) hb1); clear hb1) | (go_at_call 13; (with_reducible refine (wrap_any ((t : Nat) : Int) _ [c] _ (one_read _ _ (by simp) c) (by simp)).mono ?_); rw [HW2.out]; rintro e w3 ⟨rfl, hb3⟩; have HZ := Lib.hid (below_next (w0 := w) (by first | exact HZ.out | exact below_new HZ.out _ | exact below_new (below_new HZ.out _) _) hb3); clear hb3) | (go_at_call 11; (with_reducible refine (awake_any _).mono ?_); rintro e w5 ⟨rfl, hb5⟩; have HZ := Lib.hid (below_next (w0 := w) (by first | exact HZ.out | exact below_new HZ.out _ | exact below_new (below_new HZ.out _) _) hb5); clear hb5))
      go_ret
      exact ⟨rfl, HZ.out⟩
    · have HW2 := Lib.hid hW2
      have HRD := Lib.hid hR
      have HSU := Lib.hid (show (u ++ s).size ≤ 1099511627776 by rw [ByteArray.size_append]; omega)
      clear hW2 h31 hR
      go_enter Try.func8, Try.ntmps8
      go_wp2_with (first | (go_at_call 20; (with_reducible refine (one_any s _ HS1.out).mono ?_); rw [HO.out]; rintro e w1 ⟨rfl, hb1⟩; have HZ := Lib.hid (below_next (w0 := w) (by first | exact HZ.out | exact below_new HZ.out _ | exact below_new (below_new HZ.out _) _) hb1); clear hb1) | (go_at_call 13; (with_reducible refine (wrap_any ((t : Nat) : Int) _ [c] _ (one_read _ _ (by simp) c) (by simp)).mono ?_); rw [HW2.out]; rintro e w3 ⟨rfl, hb3⟩; have HZ := Lib.hid (below_next (w0 := w) (by first | exact HZ.out | exact below_new HZ.out _ | exact below_new (below_new HZ.out _) _) hb3); clear hb3) | (go_at_call 21; (with_reducible refine (read_any (u ++ s) _ HSU.out).mono ?_); rw [HRD.out]; rintro e w4 ⟨rfl, hb4⟩; have HZ := Lib.hid (below_next (w0 := w) (by first | exact HZ.out | exact below_new HZ.out _ | exact below_new (below_new HZ.out _) _) hb4); clear hb4) | (go_at_call 11; (with_reducible refine (awake_any _).mono ?_); rintro e w5 ⟨rfl, hb5⟩; have hp := (hb5.block w4.heap.size (by simp)).trans (elNew w4 _); obtain ⟨p0, p1, p2, pf0, pf1, pf2, plt⟩ := el_facts hp; clear hp; have HZ := Lib.hid (below_next (w0 := w) (by first | exact HZ.out | exact below_new HZ.out _ | exact below_new (below_new HZ.out _) _) hb5); clear hb5))
      go_ret
      exact ⟨rfl, HZ.out⟩
  · have HO := Lib.hid hO
    have HW1 := Lib.hid hW
    clear hO hW
    rcases hB with ⟨h31, hW2⟩ | ⟨h31, u, hu, hW2, hR⟩
    · have HW2 := Lib.hid hW2
      have dt : ((t : Int) % 32 == 31) = true := beq_iff_eq.2 (by omega)
      clear hW2 h31
      go_enter Try.func8, Try.ntmps8
      go_wp2_with (first | (go_at_call 20; (with_reducible refine (one_any s _ HS1.out).mono ?_); rw [HO.out]; rintro e w1 ⟨rfl, hb1⟩; have HZ := Lib.hid (below_next (w0 := w) (by first | exact HZ.out | exact below_new HZ.out _ | exact below_new (below_new HZ.out _) _) hb1); clear hb1) | (go_at_call 13; (with_reducible refine (wrap_any ((t1 : Nat) : Int) _ [c1] _ (one_read _ _ (by simp) c1) (by simp)).mono ?_); rw [HW1.out]; rintro e w2 ⟨rfl, hb2⟩; have hp := (hb2.block w1.heap.size (by simp; omega)).trans (heap_keep (elNew w1 _) _); obtain ⟨p0, p1, p2, pf0, pf1, pf2, plt⟩ := el_facts hp; clear hp; have HZ := Lib.hid (below_next (w0 := w) (by first | exact HZ.out | exact below_new HZ.out _ | exact below_new (below_new HZ.out _) _) hb2); clear hb2) | (go_at_call 13; (with_reducible refine (wrap_any ((t : Nat) : Int) _ [c] _ (one_read _ _ (by simp) c) (by simp)).mono ?_); rw [HW2.out]; rintro e w3 ⟨rfl, hb3⟩; have HZ := Lib.hid (below_next (w0 := w) (by first | exact HZ.out | exact below_new HZ.out _ | exact below_new (below_new HZ.out _) _) hb3); clear hb3) | (go_at_call 11; (with_reducible refine (awake_any _).mono ?_); rintro e w5 ⟨rfl, hb5⟩; have HZ := Lib.hid (below_next (w0 := w) (by first | exact HZ.out | exact below_new HZ.out _ | exact below_new (below_new HZ.out _) _) hb5); clear hb5))
      go_ret
      exact ⟨rfl, HZ.out⟩
    · have HW2 := Lib.hid hW2
      have HRD := Lib.hid hR
      have HSU := Lib.hid (show (u ++ s).size ≤ 1099511627776 by rw [ByteArray.size_append]; omega)
      clear hW2 h31 hR
      go_enter Try.func8, Try.ntmps8
      go_wp2_with (first | (go_at_call 20; (with_reducible refine (one_any s _ HS1.out).mono ?_); rw [HO.out]; rintro e w1 ⟨rfl, hb1⟩; have HZ := Lib.hid (below_next (w0 := w) (by first | exact HZ.out | exact below_new HZ.out _ | exact below_new (below_new HZ.out _) _) hb1); clear hb1) | (go_at_call 13; (with_reducible refine (wrap_any ((t1 : Nat) : Int) _ [c1] _ (one_read _ _ (by simp) c1) (by simp)).mono ?_); rw [HW1.out]; rintro e w2 ⟨rfl, hb2⟩; have hp := (hb2.block w1.heap.size (by simp; omega)).trans (heap_keep (elNew w1 _) _); obtain ⟨p0, p1, p2, pf0, pf1, pf2, plt⟩ := el_facts hp; clear hp; have HZ := Lib.hid (below_next (w0 := w) (by first | exact HZ.out | exact below_new HZ.out _ | exact below_new (below_new HZ.out _) _) hb2); clear hb2) | (go_at_call 13; (with_reducible refine (wrap_any ((t : Nat) : Int) _ [c] _ (one_read _ _ (by simp) c) (by simp)).mono ?_); rw [HW2.out]; rintro e w3 ⟨rfl, hb3⟩; have HZ := Lib.hid (below_next (w0 := w) (by first | exact HZ.out | exact below_new HZ.out _ | exact below_new (below_new HZ.out _) _) hb3); clear hb3) | (go_at_call 21; (with_reducible refine (read_any (u ++ s) _ HSU.out).mono ?_); rw [HRD.out]; rintro e w4 ⟨rfl, hb4⟩; have HZ := Lib.hid (below_next (w0 := w) (by first | exact HZ.out | exact below_new HZ.out _ | exact below_new (below_new HZ.out _) _) hb4); clear hb4) | (go_at_call 11; (with_reducible refine (awake_any _).mono ?_); rintro e w5 ⟨rfl, hb5⟩; have hp := (hb5.block w4.heap.size (by simp)).trans (elNew w4 _); obtain ⟨p0, p1, p2, pf0, pf1, pf2, plt⟩ := el_facts hp; clear hp; have HZ := Lib.hid (below_next (w0 := w) (by first | exact HZ.out | exact below_new HZ.out _ | exact below_new (below_new HZ.out _) _) hb5); clear hb5))
      go_ret
      exact ⟨rfl, HZ.out⟩

theorem back_law (s : ByteArray) (t : Nat) (c : ByteArray) (w : World) (ht : t < 256) :
    Calls Try.prog 8 #[.string s, .int .u8 (t : Nat), .string c] w fun e w' => e = .returned (.bool true) ∧ Below w.heap.size w w' := by
  by_cases h : 600 < s.size ∨ 600 < c.size
  · exact back_far s t c w h
  · exact back_near s t c w (by omega) (by omega) ht
end Go.Proofs.Ytgpockpfefjjkaa
