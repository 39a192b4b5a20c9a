/-
  The contracts of hasSpareByte and Integer of prim.
-/
import Derived.Test.YtkamoenjbllhjaaPspec
namespace Go.Proofs.Ytkamoenjbllhjaa
open Go.RowKit

theorem spare_short {c : ByteArray} (h : c.size < 2) : spare c = false := by
  unfold spare
  rw [decide_eq_false (by omega)]; rfl
theorem spare_long {c : ByteArray} (h : 2 ≤ c.size) {x y : Nat} (hx : u8at c 0 = x) (hy : u8at c 1 = y) :
    spare c = (decide (x = 0) && decide (y < 128) || decide (x = 255) && decide (128 ≤ y)) := by
  unfold spare
  rw [decide_eq_true h, hx, hy]; rfl
theorem index2 (c : ByteArray) (h : 2 ≤ c.size) : (∀ w, (Instr.index 9 (.string c) (.int .i64 0)).run Try.prog w = .ok (.int .u8 ((u8at c 0 : Nat) : Int)) w) ∧ ∀ w, (Instr.index 9 (.string c) (.int .i64 1)).run Try.prog w = .ok (.int .u8 ((u8at c 1 : Nat) : Int)) w :=
  ⟨fun w => run_index_u8 (P := Try.prog) Try.underlying9 c 0 (by omega) (0 : Int) rfl w, fun w => run_index_u8 (P := Try.prog) Try.underlying9 c 1 (by omega) (1 : Int) rfl w⟩

set_option maxRecDepth 100000 in
set_option maxHeartbeats 1000000 in
theorem spare_any (c : ByteArray) (w : World) :
    Calls Try.prog 26 #[.string c] w fun e w' => e = .returned (.bool (spare c)) ∧ w' = w := by
  by_cases h : c.size < 2
  · rw [spare_short h]
    have d : decide ((c.size : Int) < 2) = true := by simp; omega
    clear h
    go_enter Try.func26, Try.ntmps26
    go_wp2_with fail
    go_ret
    exact ⟨rfl, rfl⟩
  · obtain ⟨x0, x1⟩ := index2 c (by omega)
    obtain ⟨x, hx⟩ : ∃ x, u8at c 0 = x := ⟨_, rfl⟩
    obtain ⟨y, hy⟩ : ∃ y, u8at c 1 = y := ⟨_, rfl⟩
    rw [spare_long (by omega) hx hy]
    rw [hx] at x0
    rw [hy] at x1
    have d : decide ((c.size : Int) < 2) = false := by simp; omega
    clear h hx hy
    by_cases hy : 128 ≤ y
    · have d1 : decide ((128 : Int) ≤ (y : Int)) = true := by simp; omega
      by_cases h0 : x = 0
      · subst h0
        have HR := Lib.hid (show (decide ((0 : Nat) = 0) && decide (y < 128) || decide ((0 : Nat) = 255) && decide (128 ≤ y)) = false by simp; omega)
        rw [HR.out]
        clear hy
        go_enter Try.func26, Try.ntmps26
        go_wp2_with fail
        go_ret
        exact ⟨rfl, rfl⟩
      · have d2 : ((x : Int) == 0) = false := beq_eq_false_iff_ne.2 (by omega)
        by_cases h1 : x = 255
        · subst h1
          have HR := Lib.hid (show (decide ((255 : Nat) = 0) && decide (y < 128) || decide ((255 : Nat) = 255) && decide (128 ≤ y)) = true by simp; omega)
          rw [HR.out]
          clear hy h0 d2
          go_enter Try.func26, Try.ntmps26
          go_wp2_with fail
          go_ret
          exact ⟨rfl, rfl⟩
        · have d3 : ((x : Int) == 255) = false := beq_eq_false_iff_ne.2 (by omega)
          have HR := Lib.hid (show (decide (x = 0) && decide (y < 128) || decide (x = 255) && decide (128 ≤ y)) = false by simp; omega)
          rw [HR.out]
          clear hy h0 h1
          go_enter Try.func26, Try.ntmps26
          go_wp2_with fail
          go_ret
          exact ⟨rfl, rfl⟩
    · have d1 : decide ((128 : Int) ≤ (y : Int)) = false := by simp; omega
      by_cases h0 : x = 0
      · subst h0
        have HR := Lib.hid (show (decide ((0 : Nat) = 0) && decide (y < 128) || decide ((0 : Nat) = 255) && decide (128 ≤ y)) = true by simp; omega)
        rw [HR.out]
        clear hy
        go_enter Try.func26, Try.ntmps26
        go_wp2_with fail
        go_ret
        exact ⟨rfl, rfl⟩
      · have d2 : ((x : Int) == 0) = false := beq_eq_false_iff_ne.2 (by omega)
        have HR := Lib.hid (show (decide (x = 0) && decide (y < 128) || decide (x = 255) && decide (128 ≤ y)) = false by simp; omega)
        rw [HR.out]
        by_cases h1 : x = 255
        · subst h1
          clear hy h0 d2
          go_enter Try.func26, Try.ntmps26
          go_wp2_with fail
          go_ret
          exact ⟨rfl, rfl⟩
        · have d3 : ((x : Int) == 255) = false := beq_eq_false_iff_ne.2 (by omega)
          clear hy h0 h1
          go_enter Try.func26, Try.ntmps26
          go_wp2_with fail
          go_ret
          exact ⟨rfl, rfl⟩
end Go.Proofs.Ytkamoenjbllhjaa
