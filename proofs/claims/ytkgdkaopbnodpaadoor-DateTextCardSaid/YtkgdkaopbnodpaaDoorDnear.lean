/-
  The contracts of the law's functions near and awake.
-/
import Derived.Test.YtkgdkaopbnodpaaDoorDrdecode
namespace Go.Proofs.YtkgdkaopbnodpaaDoor
open Go.RowKit

/-- A number of 64 bits. -/
def I64 (x : Int) : Prop := -9223372036854775808 ≤ x ∧ x ≤ 9223372036854775807
theorem ok_new (q : Nat) (h : q < 8050) : Ok ⟨1950 + q, 1, 1, 0, 0, 0⟩ := by
  refine ⟨by simp, by simp; omega, by simp, by simp, by simp, ?_, by simp, by simp, by simp⟩
  have := (mdays_pos (y := 1950 + q) (m := 1) (by omega) (by omega)).1
  simp; omega

set_option maxRecDepth 100000 in
set_option maxHeartbeats 4000000 in
theorem near_any (t : Int) (k : Nat) (d : Int) (w : World) (ht : I64 t) (hk : k < 65536) (hd : -128 ≤ d ∧ d ≤ 127) :
    Calls Tryd.prog 9 #[.int .i64 t, .int .u16 (k : Int), .int .i8 d] w fun E w' => ∃ x, I64 x ∧ E = .returned (.int .i64 x) ∧ Below w.heap.size w w' := by
  have h4 : (k : Int) % 4 = 0 ∨ (k : Int) % 4 = 1 ∨ (k : Int) % 4 = 2 ∨ (k : Int) % 4 = 3 := by omega
  obtain ⟨hd1, hd2⟩ := hd
  rcases h4 with h4 | h4 | h4 | h4
  · have HT := Lib.hid ht
    clear ht
    go_enter Tryd.func9, Tryd.ntmps9
    go_wp2_with fail
    go_ret
    exact ⟨t, HT.out, rfl, Below.refl _ _⟩
  · clear ht
    go_enter Tryd.func9, Tryd.ntmps9
    go_wp2_with fail
    go_ret
    exact ⟨86400 * (k : Int) + d, by unfold I64; omega, rfl, Below.refl _ _⟩
  · clear ht
    obtain ⟨q, hq⟩ : ∃ q, q = k % 8050 := ⟨_, rfl⟩
    have q1 : (k : Int) % 8050 = (q : Int) := by omega
    obtain ⟨y, hy⟩ : ∃ y, y = 1950 + q := ⟨_, rfl⟩
    have q2 : 1950 + (q : Int) = (y : Int) := by omega
    have ho := ok_new q (by omega)
    rw [← hy] at ho
    have HS := Lib.hid (show ∀ w, Calls Tryd.prog 14 #[dtv (y : Int) 1 1 0 0 0] w fun E w' => E = .returned (.tuple #[.int .i64 ((secs ⟨y, 1, 1, 0, 0, 0⟩ : Nat) : Int), .int .i64 0]) ∧ Below w.heap.size w w' from fun w => rsecs_yes ho w)
    have hm := secs_max ho
    generalize secs ⟨y, 1, 1, 0, 0, 0⟩ = S at HS hm
    clear ho hq hy
    go_enter Tryd.func9, Tryd.ntmps9
    go_wp2_with (go_at_call 14; (with_reducible refine (HS.out _).mono ?_); rintro E w1 ⟨rfl, hb1⟩; have HB1 := Lib.hid hb1; clear hb1)
    go_ret
    exact ⟨(S : Int) + d, by unfold I64; omega, rfl, HB1.out⟩
  · clear ht
    have e1 : -254033452800 < t.tmod 254033452800 ∧ t.tmod 254033452800 < 254033452800 := by
      rcases Int.le_total 0 t with h | h
      · rw [Int.tmod_eq_emod_of_nonneg h]; omega
      · have h2 := Int.tmod_eq_emod_of_nonneg (a := -t) (b := 254033452800) (by omega)
        rw [Int.neg_tmod] at h2
        omega
    obtain ⟨r, hr⟩ : ∃ r, t.tmod 254033452800 = r := ⟨_, rfl⟩
    rw [hr] at e1
    obtain ⟨r1, r2⟩ := e1
    go_enter Tryd.func9, Tryd.ntmps9
    go_wp2_with fail
    go_ret
    exact ⟨(r + 254033452799 + 1) % 254033452800, by unfold I64; omega, rfl, Below.refl _ _⟩

theorem ok_1 : Ok ⟨1950, 2, 1, 0, 0, 0⟩ := ⟨by decide, by decide, by decide, by decide, by decide, by decide, by decide, by decide, by decide⟩
theorem ok_0 : Ok ⟨1950, 1, 1, 0, 0, 0⟩ := ⟨by decide, by decide, by decide, by decide, by decide, by decide, by decide, by decide, by decide⟩
theorem secs_1 : secs ⟨1950, 2, 1, 0, 0, 0⟩ = 2678400 := by decide
theorem secs_0 : secs ⟨1950, 1, 1, 0, 0, 0⟩ = 0 := by decide
theorem aw1 (w : World) (hT : Mon w) : Calls Tryd.prog 20 #[.int .i64 2678400] w fun E w' => E = .returned (.tuple #[.string ⟨#[49, 57, 53, 48, 45, 48, 50, 45, 48, 49, 32, 48, 48, 58, 48, 48, 58, 48, 48]⟩, .int .i64 0]) ∧ Below w.heap.size w w' := by
  have h := fmt_yes ok_1 w hT
  rw [secs_1] at h
  exact h
theorem aw2 (w : World) (hT : Mon w) : Calls Tryd.prog 16 #[.int .i64 23, .string ⟨#[53, 48, 48, 49, 48, 49, 48, 48, 48, 48, 48, 48, 90]⟩] w fun E w' => E = .returned (.tuple #[.int .i64 0, .int .i64 0]) ∧ Below w.heap.size w w' := by
  have h := dec_yes (tag := 23) (s := ⟨#[53, 48, 48, 49, 48, 49, 48, 48, 48, 48, 48, 48, 90]⟩) (x := ⟨1950, 1, 1, 0, 0, 0⟩) ⟨ok_0, .inl ⟨rfl, by decide, by decide⟩⟩ w hT
  rw [secs_0] at h
  exact h
theorem aw3 (w : World) (hT : Mon w) : Calls Tryd.prog 10 #[.int .i64 0] w fun E w' => E = .returned (.tuple #[dtv 1950 1 1 0 0 0, .int .i64 0]) ∧ Below w.heap.size w w' := by
  have h := civ_yes ok_0 w hT
  rw [secs_0] at h
  exact h

set_option maxRecDepth 100000 in
set_option maxHeartbeats 4000000 in
theorem awake_any (w : World) (hT : Mon w) :
    Calls Tryd.prog 13 #[] w fun E w' => E = .returned (.bool true) ∧ Below w.heap.size w w' := by
  have HT := Lib.hid hT
  clear hT
  go_enter Tryd.func13, Tryd.ntmps13
  go_wp2_with (first
    | (go_at_call 20; (with_reducible refine (aw1 _ HT.out).mono ?_); rintro E w1 ⟨rfl, hb1⟩; have HB1 := Lib.hid hb1; have HT1 := Lib.hid (HT.out.old hb1); clear hb1)
    | (go_at_call 16; (with_reducible refine (aw2 _ HT1.out).mono ?_); rintro E w2 ⟨rfl, hb2⟩; have HB2 := Lib.hid (below_next HB1.out hb2); have HT2 := Lib.hid (HT1.out.old hb2); clear hb2)
    | (go_at_call 10; (with_reducible refine (aw3 _ HT2.out).mono ?_); rintro E w3 ⟨rfl, hb3⟩; have HB3 := Lib.hid (below_next HB2.out hb3); clear hb3))
  go_ret
  exact ⟨rfl, below_next HB3.out (belowNew _ _)⟩
end Go.Proofs.YtkgdkaopbnodpaaDoor
