/-
  The contracts of date.valid and date.Seconds.
-/
import Derived.Test.YtkgdkaopbnodpaaDoorDyear
namespace Go.Proofs.YtkgdkaopbnodpaaDoor
open Go.RowKit

/-- Six numbers that are a date. -/
def OkI (a b c d e f : Int) : Prop := ∃ x, Ok x ∧ a = (x.y : Int) ∧ b = (x.m : Int) ∧ c = (x.d : Int) ∧ d = (x.h : Int) ∧ e = (x.n : Int) ∧ f = (x.s : Int)
theorem okI_of {a b c d e f : Int} (h1 : 1950 ≤ a ∧ a ≤ 9999) (h2 : 1 ≤ b ∧ b ≤ 12) (h3 : 1 ≤ c ∧ c ≤ ((mdays a.toNat b.toNat : Nat) : Int)) (h4 : 0 ≤ d ∧ d ≤ 23) (h5 : 0 ≤ e ∧ e ≤ 59) (h6 : 0 ≤ f ∧ f ≤ 59) : OkI a b c d e f :=
  ⟨⟨a.toNat, b.toNat, c.toNat, d.toNat, e.toNat, f.toNat⟩, ⟨by simp; omega, by simp; omega, by simp; omega, by simp; omega, by simp; omega, by simp; omega, by simp; omega, by simp; omega, by simp; omega⟩, by simp; omega, by simp; omega, by simp; omega, by simp; omega, by simp; omega, by simp; omega⟩
theorem okI_to {a b c d e f : Int} (h : OkI a b c d e f) : (1950 ≤ a ∧ a ≤ 9999) ∧ (1 ≤ b ∧ b ≤ 12) ∧ (1 ≤ c ∧ c ≤ ((mdays a.toNat b.toNat : Nat) : Int)) ∧ (0 ≤ d ∧ d ≤ 23) ∧ (0 ≤ e ∧ e ≤ 59) ∧ (0 ≤ f ∧ f ≤ 59) := by
  obtain ⟨x, h, rfl, rfl, rfl, rfl, rfl, rfl⟩ := h
  obtain ⟨a1, a2, a3, a4, a5, a6, a7, a8, a9⟩ := h
  simp only [Int.toNat_natCast]
  omega

theorem within_yes {a b c : Int} (h : b ≤ a ∧ a ≤ c) (w : World) :
    Calls Tryd.prog 40 #[.int .i64 a, .int .i64 b, .int .i64 c] w fun e w' => e = .returned (.bool true) ∧ w' = w := by
  have := within_any a b c w
  rwa [decide_eq_true h] at this
theorem within_no {a b c : Int} (h : ¬ (b ≤ a ∧ a ≤ c)) (w : World) :
    Calls Tryd.prog 40 #[.int .i64 a, .int .i64 b, .int .i64 c] w fun e w' => e = .returned (.bool false) ∧ w' = w := by
  have := within_any a b c w
  rwa [decide_eq_false h] at this

set_option maxRecDepth 100000 in
set_option maxHeartbeats 4000000 in
theorem valid_any (a b c d e f : Int) (w : World) (hT : Mon w) :
    Calls Tryd.prog 29 #[dtv a b c d e f] w fun E w' => (OkI a b c d e f ∧ E = .returned (.bool true) ∨ ¬ OkI a b c d e f ∧ E = .returned (.bool false)) ∧ Below w.heap.size w w' := by
  by_cases h1 : 1950 ≤ a ∧ a ≤ 9999
  · have HY1 := Lib.hid (within_yes h1)
    by_cases h2 : 1 ≤ b ∧ b ≤ 12
    · have HY2 := Lib.hid (within_yes h2)
      obtain ⟨y, rfl⟩ : ∃ y : Nat, a = (y : Int) := ⟨a.toNat, by omega⟩
      obtain ⟨m, rfl⟩ : ∃ m : Nat, b = (m : Int) := ⟨b.toNat, by omega⟩
      have hT1 : Mon (w.alloc (.cells (dtc (y : Int) (m : Int) c d e f) 27)) := hT.alloc _
      have HM := Lib.hid (fun n => mdays_any y m _ (hT1.drawn n) (by omega) (by omega) (by omega) (by omega))
      by_cases h3 : 1 ≤ c ∧ c ≤ ((mdays y m : Nat) : Int)
      · have HY3 := Lib.hid (within_yes h3)
        by_cases h4 : 0 ≤ d ∧ d ≤ 23
        · have HY4 := Lib.hid (within_yes h4)
          by_cases h5 : 0 ≤ e ∧ e ≤ 59
          · have HY5 := Lib.hid (within_yes h5)
            by_cases h6 : 0 ≤ f ∧ f ≤ 59
            · have HY6 := Lib.hid (within_yes h6)
              have HY := Lib.hid (okI_of h1 h2 (by simpa using h3) h4 h5 h6)
              clear h1 h2 h3 h4 h5 h6 hT hT1
              go_enter Tryd.func29, Tryd.ntmps29
              go_wp2_with fail
              go_quiet (first
                    | (go_at_call 40; with_reducible refine Calls.quiet_of_same (HY1.out _))
                    | (go_at_call 40; with_reducible refine Calls.quiet_of_same (HY2.out _))
                    | (go_at_call 26; with_reducible refine Calls.quiet_of_same (HM.out _))
                    | (go_at_call 40; with_reducible refine Calls.quiet_of_same (HY3.out _))
                    | (go_at_call 40; with_reducible refine Calls.quiet_of_same (HY4.out _))
                    | (go_at_call 40; with_reducible refine Calls.quiet_of_same (HY5.out _))
                    | (go_at_call 40; with_reducible refine Calls.quiet_of_same (HY6.out _)))
              go_wp2_with fail
              go_ret
              exact ⟨.inl ⟨HY.out, rfl⟩, Below.drawn (belowNew _ _) _⟩
            · have HN := Lib.hid (show ¬ OkI (y : Int) (m : Int) c d e f from fun h => h6 ((okI_to h).2.2.2.2.2))
              have HW := Lib.hid (within_no h6)
              clear h1 h2 h3 h4 h5 h6 hT hT1
              go_enter Tryd.func29, Tryd.ntmps29
              go_wp2_with fail
              go_quiet (first
                    | (go_at_call 40; with_reducible refine Calls.quiet_of_same (HY1.out _))
                    | (go_at_call 40; with_reducible refine Calls.quiet_of_same (HY2.out _))
                    | (go_at_call 26; with_reducible refine Calls.quiet_of_same (HM.out _))
                    | (go_at_call 40; with_reducible refine Calls.quiet_of_same (HY3.out _))
                    | (go_at_call 40; with_reducible refine Calls.quiet_of_same (HY4.out _))
                    | (go_at_call 40; with_reducible refine Calls.quiet_of_same (HY5.out _))
                    | (go_at_call 40; with_reducible refine Calls.quiet_of_same (HW.out _)))
              go_wp2_with fail
              go_ret
              exact ⟨.inr ⟨HN.out, rfl⟩, Below.drawn (belowNew _ _) _⟩
          · have HN := Lib.hid (show ¬ OkI (y : Int) (m : Int) c d e f from fun h => h5 ((okI_to h).2.2.2.2.1))
            have HW := Lib.hid (within_no h5)
            clear h1 h2 h3 h4 h5 hT hT1
            go_enter Tryd.func29, Tryd.ntmps29
            go_wp2_with fail
            go_quiet (first
                  | (go_at_call 40; with_reducible refine Calls.quiet_of_same (HY1.out _))
                  | (go_at_call 40; with_reducible refine Calls.quiet_of_same (HY2.out _))
                  | (go_at_call 26; with_reducible refine Calls.quiet_of_same (HM.out _))
                  | (go_at_call 40; with_reducible refine Calls.quiet_of_same (HY3.out _))
                  | (go_at_call 40; with_reducible refine Calls.quiet_of_same (HY4.out _))
                  | (go_at_call 40; with_reducible refine Calls.quiet_of_same (HW.out _)))
            go_wp2_with fail
            go_ret
            exact ⟨.inr ⟨HN.out, rfl⟩, Below.drawn (belowNew _ _) _⟩
        · have HN := Lib.hid (show ¬ OkI (y : Int) (m : Int) c d e f from fun h => h4 ((okI_to h).2.2.2.1))
          have HW := Lib.hid (within_no h4)
          clear h1 h2 h3 h4 hT hT1
          go_enter Tryd.func29, Tryd.ntmps29
          go_wp2_with fail
          go_quiet (first
                | (go_at_call 40; with_reducible refine Calls.quiet_of_same (HY1.out _))
                | (go_at_call 40; with_reducible refine Calls.quiet_of_same (HY2.out _))
                | (go_at_call 26; with_reducible refine Calls.quiet_of_same (HM.out _))
                | (go_at_call 40; with_reducible refine Calls.quiet_of_same (HY3.out _))
                | (go_at_call 40; with_reducible refine Calls.quiet_of_same (HW.out _)))
          go_wp2_with fail
          go_ret
          exact ⟨.inr ⟨HN.out, rfl⟩, Below.drawn (belowNew _ _) _⟩
      · have HN := Lib.hid (show ¬ OkI (y : Int) (m : Int) c d e f from fun h => h3 (by simpa using (okI_to h).2.2.1))
        have HW := Lib.hid (within_no h3)
        clear h1 h2 h3 hT hT1
        go_enter Tryd.func29, Tryd.ntmps29
        go_wp2_with fail
        go_quiet (first
              | (go_at_call 40; with_reducible refine Calls.quiet_of_same (HY1.out _))
              | (go_at_call 40; with_reducible refine Calls.quiet_of_same (HY2.out _))
              | (go_at_call 26; with_reducible refine Calls.quiet_of_same (HM.out _))
              | (go_at_call 40; with_reducible refine Calls.quiet_of_same (HW.out _)))
        go_wp2_with fail
        go_ret
        exact ⟨.inr ⟨HN.out, rfl⟩, Below.drawn (belowNew _ _) _⟩
    · have HN := Lib.hid (show ¬ OkI a b c d e f from fun h => h2 ((okI_to h).2.1))
      have HW := Lib.hid (within_no h2)
      clear h1 h2 hT
      go_enter Tryd.func29, Tryd.ntmps29
      go_wp2_with fail
      go_quiet (first
            | (go_at_call 40; with_reducible refine Calls.quiet_of_same (HY1.out _))
            | (go_at_call 40; with_reducible refine Calls.quiet_of_same (HW.out _)))
      go_wp2_with fail
      go_ret
      exact ⟨.inr ⟨HN.out, rfl⟩, Below.drawn (belowNew _ _) _⟩
  · have HN := Lib.hid (show ¬ OkI a b c d e f from fun h => h1 ((okI_to h).1))
    have HW := Lib.hid (within_no h1)
    clear h1 hT
    go_enter Tryd.func29, Tryd.ntmps29
    go_wp2_with fail
    go_quiet (first
          | (go_at_call 40; with_reducible refine Calls.quiet_of_same (HW.out _)))
    go_wp2_with fail
    go_ret
    exact ⟨.inr ⟨HN.out, rfl⟩, Below.drawn (belowNew _ _) _⟩
end Go.Proofs.YtkgdkaopbnodpaaDoor
