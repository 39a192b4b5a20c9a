/-
  The contract of hasUnused of prim.
-/
import Derived.Test.YtkamoenjbllhjaaPbool
namespace Go.Proofs.Ytkamoenjbllhjaa
open Go.RowKit

theorem tz_all : ∀ x : Fin 256, ∀ u : Fin 8, decide (u.val ≤ Lib.trailingZeros8 x.val) = decide (x.val % 2 ^ u.val = 0) := by decide +kernel
theorem tz_iff {x u : Nat} (hx : x < 256) (hu : u ≤ 7) : decide (u ≤ Lib.trailingZeros8 x) = decide (x % 2 ^ u = 0) := tz_all ⟨x, hx⟩ ⟨u, by omega⟩
theorem last_u8 (b : ByteArray) (h : b.size ≠ 0) (w : World) : (Instr.index 9 (.string b) (.int .i64 ((b.size : Int) - 1))).run Try.prog w = .ok (.int .u8 ((u8at b (b.size - 1) : Nat) : Int)) w :=
  run_index_u8 (P := Try.prog) Try.underlying9 b (b.size - 1) (by omega) ((b.size : Int) - 1) (by omega) w
theorem unusedOk_zero (b : ByteArray) : unusedOk b 0 = true := by unfold unusedOk; simp
theorem unusedOk_empty {u : Nat} (h : u ≠ 0) : unusedOk ⟨#[]⟩ u = false := by
  unfold unusedOk
  rw [decide_eq_false h]; rfl
theorem unusedOk_some {b : ByteArray} {u : Nat} (h : u ≠ 0) (hb : b.size ≠ 0) : unusedOk b u = decide (u8at b (b.size - 1) % 2 ^ u = 0) := by
  unfold unusedOk
  rw [decide_eq_false h, decide_eq_true hb]; rfl

set_option maxRecDepth 100000 in
set_option maxHeartbeats 1000000 in
theorem unused_any (b : ByteArray) (u : Nat) (w : World) (hu : u ≤ 7) (hs : b.size ≤ 1099511627776) :
    Calls Try.prog 28 #[.string b, .int .i64 (u : Int)] w fun e w' => e = .returned (.bool (unusedOk b u)) ∧ w' = w := by
  by_cases h0 : u = 0
  · subst h0
    rw [unusedOk_zero]
    go_enter Try.func28, Try.ntmps28
    go_wp2_with fail
    go_ret
    exact ⟨rfl, rfl⟩
  · have d0 : ((u : Int) == 0) = false := beq_eq_false_iff_ne.2 (by omega)
    by_cases hb : b.size = 0
    · obtain rfl := empty_of_size hb
      rw [unusedOk_empty h0]
      clear hb h0 hs
      go_enter Try.func28, Try.ntmps28
      go_wp2_with fail
      go_ret
      exact ⟨rfl, rfl⟩
    · have he := nonempty_list hb
      have xl := last_u8 b hb
      have hx := u8at_lt b (b.size - 1)
      rw [unusedOk_some h0 hb]
      generalize u8at b (b.size - 1) = x at xl hx
      have ht := tz_iff hx hu
      rw [← ht]
      have HT := Lib.hid (fun w => tz_any x w (by omega))
      generalize Lib.trailingZeros8 x = t at HT
      have hb1 : 1 ≤ b.size := by omega
      clear ht h0 hb hx
      go_enter Try.func28, Try.ntmps28
      go_wp2_with (go_at_call 31; (with_reducible refine (HT.out _).mono ?_); rintro e w1 ⟨rfl, rfl⟩)
      go_ret
      exact ⟨rfl, rfl⟩
end Go.Proofs.Ytkamoenjbllhjaa
