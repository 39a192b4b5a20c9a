/-
  The contracts of the functions of tlv that read a length: what the octets say, and that nothing has changed.
-/
import Derived.Test.YtgpockpfefjjkaaTspec
namespace Go.Proofs.Ytgpockpfefjjkaa
open Go.RowKit

set_option maxRecDepth 100000 in
theorem and31 : ∀ n : Nat, n < 256 → bits BinOp.and .i64 (n : Int) 31 = ((n % 32 : Nat) : Int) := by decide

theorem hasShortTag_any (n : Nat) (hn : n < 256) (w : World) :
    Calls Try.prog 31 #[.int .i64 (n : Int)] w fun e w' => e = .returned (.bool (decide (n % 32 ≠ 31))) ∧ w' = w := by
  have h := and31 n hn
  go_enter Try.func31, Try.ntmps31
  go_wp2_with fail
  go_ret
  refine ⟨?_, rfl⟩
  congr 2
  by_cases h1 : n % 32 = 31
  · simp [h1]; omega
  · have h2 : ¬ (n : Int) % 32 = 31 := by omega
    simp [h1, h2]

/-- How many octets a length takes. -/
def lsz (n : Nat) : Nat := if n < 128 then 1 else if n < 256 then 2 else if n < 65536 then 3 else 4
theorem lsz1 {n : Nat} (h : n < 128) : lsz n = 1 := by simp [lsz, h]
theorem lsz2 {n : Nat} (h : 128 ≤ n) (h' : n < 256) : lsz n = 2 := by simp [lsz, h', show ¬ n < 128 by omega]
theorem lsz3 {n : Nat} (h : 256 ≤ n) (h' : n < 65536) : lsz n = 3 := by simp [lsz, h', show ¬ n < 128 by omega, show ¬ n < 256 by omega]
theorem lsz4 {n : Nat} (h : 65536 ≤ n) : lsz n = 4 := by simp [lsz, show ¬ n < 128 by omega, show ¬ n < 256 by omega, show ¬ n < 65536 by omega]

theorem lengthSize_any (n : Nat) (w : World) :
    Calls Try.prog 48 #[.int .i64 (n : Int)] w fun e w' => e = .returned (.int .i64 (lsz n : Nat)) ∧ w' = w := by
  by_cases h1 : n < 128
  · have d1 : decide ((n : Int) < 128) = true := by simp; omega
    rw [lsz1 h1]
    clear h1
    go_enter Try.func48, Try.ntmps48
    go_wp2_with fail
    go_ret
    exact ⟨rfl, rfl⟩
  · have d1 : decide ((n : Int) < 128) = false := by simp; omega
    by_cases h2 : n < 256
    · have d2 : decide ((n : Int) < 256) = true := by simp; omega
      rw [lsz2 (by omega) h2]
      clear h1 h2
      go_enter Try.func48, Try.ntmps48
      go_wp2_with fail
      go_ret
      exact ⟨rfl, rfl⟩
    · have d2 : decide ((n : Int) < 256) = false := by simp; omega
      by_cases h3 : n < 65536
      · have d3 : decide ((n : Int) < 65536) = true := by simp; omega
        rw [lsz3 (by omega) h3]
        clear h1 h2 h3
        go_enter Try.func48, Try.ntmps48
        go_wp2_with fail
        go_ret
        exact ⟨rfl, rfl⟩
      · have d3 : decide ((n : Int) < 65536) = false := by simp; omega
        rw [lsz4 (by omega)]
        clear h1 h2 h3
        go_enter Try.func48, Try.ntmps48
        go_wp2_with fail
        go_ret
        exact ⟨rfl, rfl⟩
end Go.Proofs.Ytgpockpfefjjkaa
